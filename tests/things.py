"""Things that are neither a number nor a layer, a plan or a damage."""


class Stubborn:
    """A thing that refuses to be compared, counted, gone through or hashed."""

    def refuse(self, *rest):
        raise RuntimeError("not to be asked")

    __eq__ = __lt__ = __le__ = __gt__ = __ge__ = __len__ = __iter__ = __bool__ = __hash__ = refuse


OTHER_THINGS = (
    None, True, False, "", "text", "1", b"1", [], [1], {}, {1: 2}, set(), {1}, (), (1,), ((),), (None,),
    object(), int, len, range(3), range(1, 3), Stubborn(), -1, 10 ** 4000, -10 ** 4000,
)
