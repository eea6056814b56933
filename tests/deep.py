"""Things thousands deep within one another, for the tests."""

DEEP = 20000


def deep_list(inmost=None):
    thing = [inmost]
    for _ in range(DEEP):
        thing = [thing]
    return thing


def deep_tuple(inmost=None):
    thing = (inmost,)
    for _ in range(DEEP):
        thing = (thing,)
    return thing


def deep_mixed(inmost=None):
    thing = (inmost,)
    for _ in range(DEEP // 2):
        thing = ([thing],)
    return thing


def deep_pairs(inmost=()):
    """Both items of each tuple are the same deep one: too many ways through to go them all."""
    thing = inmost
    for _ in range(DEEP):
        thing = (thing, thing)
    return thing


def deep_rows(inmost=("way", 0, 0)):
    thing = inmost
    for _ in range(DEEP):
        thing = ("row", (thing,))
    return thing


def deep_double_rows(inmost=("way", 0, 0)):
    thing = inmost
    for _ in range(DEEP):
        thing = ("row", (thing, thing))
    return thing


def deep_times(inmost=("way", 0, 0)):
    thing = inmost
    for _ in range(DEEP):
        thing = ("times", 1, thing)
    return thing


def deep_things():
    return [deep_list(), deep_tuple(), deep_mixed(), deep_pairs(), deep_rows(), deep_double_rows(), deep_times()]
