"""What the judges share: looking at things of any kind, and never failing at one."""


def is_whole(thing):
    """Whether the thing is a whole number; a truth is none."""
    return isinstance(thing, int) and not isinstance(thing, bool)


def are_whole(things):
    """Whether all that stands in the list or tuple is whole numbers."""
    return all([is_whole(thing) for thing in things])


def alike(thing, told):
    """Whether the thing is what is told, itself made of lists, tuples and whole numbers."""
    # Python takes True for 1, so the two are never compared whole.
    if isinstance(told, list):
        return isinstance(thing, list) and parts_alike(thing, told)
    if isinstance(told, tuple):
        return isinstance(thing, tuple) and parts_alike(thing, told)
    return is_whole(thing) and thing == told


def parts_alike(thing, told):
    """Whether the parts of the one are those of the other, each at its place."""
    return len(thing) == len(told) and all([alike(part, other) for part, other in zip(thing, told)])
