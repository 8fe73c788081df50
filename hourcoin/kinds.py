"""Looks at things of any kind, ahead of taking them for numbers or rows."""


def is_number(thing):
    """Whether a thing is a whole number."""
    # Python counts truths among the ints, the document does not.
    return isinstance(thing, int) and not isinstance(thing, bool)


def is_number_within(thing, least, most):
    """Whether a thing is a whole number from the least to the most."""
    return is_number(thing) and least <= thing <= most


def is_row(thing, parts):
    """Whether a thing is a tuple of so many parts."""
    return isinstance(thing, tuple) and len(thing) == parts


def are_rising(things):
    """Whether of things that can be compared each is above the one ahead of it."""
    return all([one < other for one, other in zip(things, things[1:])])
