"""What a book is expected to tell, worked out anew and in another way than the program does."""


def expected_share(plan, used, amount):
    """Share by how far the own part and the first so many layers together can reach."""
    own, layers = plan
    rooms = [own] + [min(most, year - gone) for (most, year, _), gone in zip(layers, used)]
    reached = [min(amount, sum(rooms[:count])) for count in range(len(rooms) + 1)]
    pays = [further - near for near, further in zip(reached, reached[1:])]
    return pays[0], pays[1:], amount - reached[-1]


def expected_year(plan, damages):
    """Answer {number: (used ahead, share)} of the damages of one year, and what is used at last."""
    used = [0 for _ in plan[1]]
    told = {}
    for damage in sorted(damages, key=lambda each: (each[1], each[2])):
        share = expected_share(plan, used, damage[3])
        told[damage[2]] = (used, share)
        used = [gone + pays for gone, pays in zip(used, share[1])]
    return told, used


def expected_trail(used, paid):
    return [(gone, pays, gone + pays) for gone, pays in zip(used, paid)]


def expected_parts(plan, paid):
    """Split what each layer pays, each cover from the sums of the first so many weights."""
    parts = []
    for (_, _, weights), pays in zip(plan[1], paid):
        reached = [pays * sum(weights[:count]) // sum(weights) for count in range(len(weights) + 1)]
        parts.append([further - near for near, further in zip(reached, reached[1:])])
    return parts


def expected_dues(plan, told):
    """Sum up, cover by cover, the parts of all damages that expected_year told of."""
    dues = [[0 for _ in weights] for _, _, weights in plan[1]]
    for _, share in told.values():
        for place, parts in enumerate(expected_parts(plan, share[1])):
            for cover, part in enumerate(parts):
                dues[place][cover] += part
    return dues


def everything(book, numbers, years):
    """Ask a book all that may be asked of the numbers that stand there, and of the years."""
    return (
        book.plan, book.years(),
        [(number, book.stands(number)) for number in numbers],
        [
            (book.damage(number), book.share(number), book.trail(number), book.parts(number))
            for number in numbers if book.stands(number)
        ],
        [(book.closed(year), book.damages(year), book.used(year), book.dues(year)) for year in years],
    )


def assert_holds(test, plan, used, amount, share):
    """Ask for the sums and limits of promise 1 for the share of one damage."""
    own, paid, left = share
    test.assertIs(type(share), tuple)
    test.assertIs(type(paid), list)
    test.assertEqual(len(paid), len(plan[1]))
    test.assertEqual(own + sum(paid) + left, amount)
    test.assertTrue(0 <= own <= plan[0] and left >= 0)
    rooms = [min(most, year - gone) for (most, year, _), gone in zip(plan[1], used)]
    for place, pays in enumerate(paid):
        test.assertTrue(0 <= pays <= rooms[place])
        if pays > 0:
            test.assertEqual(own, plan[0])
            test.assertEqual(paid[:place], rooms[:place])
    if left > 0:
        test.assertEqual((own, paid), (plan[0], rooms))
