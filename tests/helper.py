"""What several tests need: all forms, some tables, and a plain model of how a table is stored."""

from itertools import permutations, product

KINDS = ("dense", "packed", "bits", "hashed")


def shapes(axis_count):
    """All pairs (kinds, axes) of forms with this number of levels."""
    return [
        (kinds, axes)
        for kinds in product(KINDS, repeat=axis_count)
        for axes in permutations(range(axis_count))
    ]


def every_shape():
    return [shape for axis_count in range(4) for shape in shapes(axis_count)]


def text_of(kinds, axes):
    """The text that a form has by the document."""
    return ", ".join(kind + " " + str(axis) for kind, axis in zip(kinds, axes)) or "-"


# Pairs (sizes, cells), all right, with entries in no order and some zeros among them.
TABLES = (
    ((), {}),
    ((), {(): 0}),
    ((), {(): -9}),
    ((1,), {}),
    ((1,), {(0,): 3}),
    ((6,), {}),
    ((6,), {(5,): 1, (0,): -2, (3,): 0, (2,): 7}),
    ((2, 3), {(0, 1): 5, (1, 0): -2, (1, 2): 7}),
    ((3, 4), {}),
    ((3, 4), {(1, 2): 0}),
    ((3, 4), {(2, 3): 4, (0, 3): 2, (0, 0): 1, (1, 1): 0}),
    ((1, 6), {(0, 5): 8, (0, 4): -8}),
    ((6, 6), {(a, b): 6 * a - b for a in range(6) for b in range(6) if (a + b) % 3 == 0}),
    ((2, 3, 4), {}),
    ((2, 3, 4), {(1, 2, 3): 5, (1, 0, 3): 6, (0, 2, 0): -7, (1, 2, 0): 8, (0, 0, 0): 0}),
    ((3, 1, 2), {(2, 0, 1): 1, (0, 0, 1): 2, (0, 0, 0): 3}),
    ((6, 6, 6), {(5, 0, 5): 1, (0, 5, 0): 2, (5, 5, 5): 3, (0, 5, 4): 4, (5, 0, 4): 5}),
)


def has_value_below(path, axes, cells):
    """Whether some cell with a value that is not 0 agrees with a path of coordinates."""
    return any(
        value != 0 and all(at[axis] == c for axis, c in zip(axes, path))
        for at, value in cells.items()
    )


def level_paths(sizes, kinds, axes, cells):
    """The paths of each level from above level 0 on, ascending; the index of a path is its place."""
    found = [[()]]
    for kind, axis in zip(kinds, axes):
        found.append([
            path + (c,)
            for path in found[-1]
            for c in range(sizes[axis])
            if kind == "dense" or has_value_below(path + (c,), axes, cells)
        ])
    return found


def model_level(kind, size, above, paths):
    """One entry of `levels` for the paths of the level above and of this one."""
    if kind == "dense":
        return ("dense", size)
    if kind == "hashed":
        buckets = [[], [], [], [], [], [], [], []]
        for place, path in enumerate(paths):
            q = above.index(path[:-1])
            buckets[(q * 3 + path[-1]) % 8].append((q, path[-1], place))
        return ("hashed", tuple(map(tuple, buckets)))
    starts = tuple(sum(path[:-1] < upper for path in paths) for upper in above) + (len(paths),)
    if kind == "packed":
        return ("packed", starts, tuple(path[-1] for path in paths))
    masks = tuple(sum(2 ** path[-1] for path in paths if path[:-1] == upper) for upper in above)
    return ("bits", starts, masks)


def model_levels(sizes, kinds, axes, cells):
    paths = level_paths(sizes, kinds, axes, cells)
    return tuple(
        model_level(kind, sizes[axis], paths[number], paths[number + 1])
        for number, (kind, axis) in enumerate(zip(kinds, axes))
    )


def value_at_path(path, axes, cells):
    at = tuple(path[axes.index(axis)] for axis in range(len(axes)))
    return cells.get(at, 0)


def model_data(sizes, kinds, axes, cells):
    return tuple(
        value_at_path(path, axes, cells) for path in level_paths(sizes, kinds, axes, cells)[-1]
    )


def is_deep_tuple(worth):
    """Whether a value contains no list at any depth."""
    if isinstance(worth, tuple):
        return all(is_deep_tuple(part) for part in worth)
    return not isinstance(worth, (list, dict))
