"""Plans: an own part, and above it layers, each with its covers."""

from claimlayers.bounds import is_row, is_whole

MOST_OWN = 10 ** 15
MOST_FOR_ONE = 10 ** 15
MOST_FOR_YEAR = 10 ** 18
MOST_WEIGHT = 10 ** 6
MOST_COVERS = 9
MOST_LAYERS = 9


def is_layer(thing):
    """Tell whether the thing, whatever it is, is a layer (most, year, weights)."""
    if not is_row(thing, 3, 3):
        return False
    most, year, weights = thing
    return is_whole(most, 1, MOST_FOR_ONE) and is_whole(year, 1, MOST_FOR_YEAR) and _are_weights(weights)


def _are_weights(thing):
    """Tell whether the thing is a tuple of the weights of a layer's covers."""
    return is_row(thing, 1, MOST_COVERS) and all(is_whole(weight, 1, MOST_WEIGHT) for weight in thing)


def is_plan(thing):
    """Tell whether the thing, whatever it is, is a plan (own, layers)."""
    if not is_row(thing, 2, 2):
        return False
    own, layers = thing
    return is_whole(own, 0, MOST_OWN) and _are_layers(layers)


def _are_layers(thing):
    """Tell whether the thing is a tuple of the layers of a plan."""
    return is_row(thing, 0, MOST_LAYERS) and all(is_layer(layer) for layer in thing)


def split(paid, weights):
    """Answer the list of what each cover pays of the sum, by its weight."""
    everything = sum(weights)
    if everything == 0:
        # Only weights out of their bounds come to nought: they count alike then,
        # so that there is no division by nought and the parts still come to the sum.
        weights = [1] * len(weights)
        everything = len(weights)
    parts = []
    weight_so_far = 0
    paid_so_far = 0
    for weight in weights:
        weight_so_far += weight
        paid_with_this = paid * weight_so_far // everything
        parts.append(paid_with_this - paid_so_far)
        paid_so_far = paid_with_this
    return parts
