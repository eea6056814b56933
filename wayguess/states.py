"""What the modules that tell things apart have in common."""


def is_whole(thing):
    """Whether a thing is a whole number: an int that is no truth."""
    return isinstance(thing, int) and not isinstance(thing, bool)


def is_whole_between(thing, low, high):
    """Whether a thing is a whole number from low to high, both among them."""
    return is_whole(thing) and low <= thing <= high


def word_of(thing):
    """The word with which a tuple begins; the empty one where a thing, of any kind, is no such tuple."""
    if not isinstance(thing, tuple) or len(thing) == 0 or not isinstance(thing[0], str):
        return ""
    return thing[0]


def is_same_state(thing, state):
    """Whether a thing is just that state."""
    # A plain == would let a truth by in the place of 0 or 1.
    if not isinstance(state, tuple):
        return is_whole(thing) and thing == state
    if not isinstance(thing, tuple) or len(thing) != len(state):
        return False
    return all(is_same_state(inner, other) for inner, other in zip(thing, state))
