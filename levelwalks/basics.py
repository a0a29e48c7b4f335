"""What several files need to tell and to take over plain values."""


def is_whole(n):
    """Tell whether a value is an integer; True and False are none."""
    return isinstance(n, int) and not isinstance(n, bool)


def frozen(worth):
    """Return a value with tuples in the place of all its lists."""
    if isinstance(worth, (list, tuple)):
        return tuple([frozen(part) for part in worth])
    return worth


def whole_in(word):
    """Return the integer that Python writes as this word, or None."""
    digits = word.removeprefix("-")
    if not digits.isdigit() or not digits.isascii():
        return None
    if str(int(word)) != word:
        return None
    return int(word)


def ascending(names):
    """Return names in ascending order, without duplicates."""
    return tuple(sorted(set(names)))


def all_coordinates(sizes):
    """Return all coordinates of axes with these sizes, in ascending order."""
    found = [()]
    for size in sizes:
        found = [(*at, c) for at in found for c in range(size)]
    return found


def chosen(worths, many):
    """Return all tuples of so many of some values, each in their order, and ascending if they are."""
    found = [((), list(worths))]
    for number in range(many):
        found = [((*start, left[at]), left[at + 1:]) for start, left in found for at in range(len(left))]
    return [start for start, left in found]
