"""Tables of integers that are stored level by level."""

from levelwalks.basics import frozen, is_whole
from levelwalks.errors import BadForm, BadSizes, NoLocate, NoWalk, OutOfRange, TooLarge
from levelwalks.forms import leading_depth

MOST_AXES = 3
LARGEST_SIZE = 6
LARGE = 10 ** 60
BUCKETS = 8


def are_sizes(sizes):
    """Tell whether a value is sizes of axes."""
    if not isinstance(sizes, tuple) or len(sizes) > MOST_AXES:
        return False
    return all([is_whole(size) and 1 <= size <= LARGEST_SIZE for size in sizes])


def are_coordinates(at, sizes):
    """Tell whether a value is coordinates in a table of these sizes."""
    if not isinstance(at, tuple) or len(at) != len(sizes):
        return False
    return all([is_whole(c) and 0 <= c < size for c, size in zip(at, sizes)])


def is_large(value):
    """Tell whether a value is too large for a table."""
    return abs(value) >= LARGE


def path_of(form, at):
    """Return coordinates in the order of the levels of a form."""
    return tuple([at[axis] for axis in form.axes])


def checked_cells(sizes, cells):
    """Return the cells without zeros, or raise the error of the least key that is wrong."""
    worthy = {}
    for at in sorted(cells):
        if not are_coordinates(at, sizes):
            raise OutOfRange(at)
        if is_large(cells[at]):
            raise TooLarge(at)
        if cells[at] != 0:
            worthy[at] = cells[at]
    return worthy


def in_path_order(form, cells):
    """Return the same cells, in the ascending order of their paths."""
    ends = {path_of(form, at): at for at in cells}
    return {ends[path]: cells[ends[path]] for path in sorted(ends)}


def bucket_number(upper, coordinate):
    """Return which bucket has the entry of a coordinate below a place."""
    return (upper * 3 + coordinate) % BUCKETS


def buckets_of(rows):
    """Return the buckets of a hashed level with these coordinates below each place."""
    buckets = [[] for number in range(BUCKETS)]
    pairs = [(upper, c) for upper, row in enumerate(rows) for c in row]
    for place, (upper, c) in enumerate(pairs):
        buckets[bucket_number(upper, c)].append((upper, c, place))
    return tuple([tuple(bucket) for bucket in buckets])


def starts_of(rows):
    """Return how many coordinates lie below the places before each place, and in all."""
    starts = [0]
    for row in rows:
        starts.append(starts[-1] + len(row))
    return tuple(starts)


def level_of(kind, size, rows):
    """Return the level that stores these coordinates below each place of the level above."""
    if kind == "dense":
        return ("dense", size)
    if kind == "hashed":
        return ("hashed", buckets_of(rows))
    if kind == "packed":
        return ("packed", starts_of(rows), tuple([c for row in rows for c in row]))
    return ("bits", starts_of(rows), tuple([sum([1 << c for c in row]) for row in rows]))


def row_below(kind, size, path, leading):
    """Return the coordinates that a level stores below a path, where `leading` are the paths to values."""
    if kind == "dense":
        return list(range(size))
    return [c for c in range(size) if (*path, c) in leading]


def leading_paths(paths):
    """Return the beginnings of paths to values, each with True."""
    return {path[:depth]: True for path in paths for depth in range(1, len(path) + 1)}


def leads_of(table, form):
    """Return the paths that lead to values of a table where it is walked in a form, each with True."""
    return leading_paths([path_of(form, at) for at, value in table.entries()])


def is_stored(form, leads, path):
    """Tell whether a table in this form stores a path, where `leads` are its paths that lead to values."""
    depth = leading_depth(form, len(path))
    return depth == 0 or path[:depth] in leads


def laid_out(sizes, form, worths):
    """Return the levels and the data, where `worths` has the values that are not 0 under their paths."""
    leading = leading_paths(worths)
    levels = []
    paths = [()]
    for kind, axis in zip(form.kinds, form.axes):
        rows = [row_below(kind, sizes[axis], path, leading) for path in paths]
        levels.append(level_of(kind, sizes[axis], rows))
        paths = [(*path, c) for path, row in zip(paths, rows) for c in row]
    return tuple(levels), tuple([worths.get(path, 0) for path in paths])


def walked_row(level, place):
    """Return the coordinates that a level that is not hashed stores below a place."""
    if level[0] == "dense":
        return list(range(level[1]))
    if level[0] == "packed":
        starts = level[1]
        return list(level[2][starts[place]:starts[place + 1]])
    mask = level[2][place]
    return [c for c in range(mask.bit_length()) if (mask >> c) & 1 == 1]


def first_place(level, place):
    """Return the number of places that a level that is not hashed has before those below a place."""
    if level[0] == "dense":
        return place * level[1]
    return level[1][place]


class Stored:
    """A table in a form. It never changes."""

    def __init__(self, sizes, form, cells):
        self.sizes = frozen(sizes)
        if not are_sizes(self.sizes):
            raise BadSizes()
        if len(form.kinds) != len(self.sizes):
            raise BadForm()
        self.form = form
        # The cells are kept beside the levels, so that a value is found in every kind of level at once.
        self.cells = in_path_order(form, checked_cells(self.sizes, cells))
        worths = {path_of(form, at): self.cells[at] for at in self.cells}
        self.levels, self.data = laid_out(self.sizes, form, worths)

    def walk(self, level, place):
        """Return the pairs (coordinate, place) that a level stores below a place of the level above."""
        if self.form.kinds[level] == "hashed":
            raise NoWalk(level)
        first = first_place(self.levels[level], place)
        row = walked_row(self.levels[level], place)
        return tuple([(c, first + number) for number, c in enumerate(row)])

    def locate(self, level, place, coordinate):
        """Return the place of a coordinate below a place of the level above, or None."""
        if self.form.kinds[level] == "packed":
            raise NoLocate(level)
        if self.form.kinds[level] != "hashed":
            return dict(self.walk(level, place)).get(coordinate)
        bucket = self.levels[level][1][bucket_number(place, coordinate)]
        return {(upper, c): found for upper, c, found in bucket}.get((place, coordinate))

    def entries(self):
        """Return the pairs (coordinates, value) in the order of the paths."""
        return list(self.cells.items())

    def restored(self, form):
        """Return the same table in another form."""
        return Stored(self.sizes, form, self.cells)

    def changed(self, at, value):
        """Return a table with another value at these coordinates."""
        cells = {key: self.cells[key] for key in self.cells}
        cells[frozen(at)] = value
        return Stored(self.sizes, self.form, cells)

    def __getitem__(self, at):
        at = frozen(at)
        if not are_coordinates(at, self.sizes):
            raise OutOfRange(at)
        return self.cells.get(at, 0)

    def __contains__(self, at):
        at = frozen(at)
        return are_coordinates(at, self.sizes) and at in self.cells

    def __len__(self):
        return len(self.cells)

    def __iter__(self):
        raise TypeError("a stored table is not iterated; its entries are")
