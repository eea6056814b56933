"""What the modules that tell things apart have in common."""


def is_whole(thing):
    """Whether a thing is a whole number: an int that is no truth."""
    return isinstance(thing, int) and not isinstance(thing, bool)


def is_whole_between(thing, low, high):
    """Whether a thing is a whole number from low to high, both among them."""
    return is_whole(thing) and low <= thing <= high
