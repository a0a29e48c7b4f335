"""The texts of stored tables."""

from levelwalks.basics import whole_in
from levelwalks.errors import BadForm, BadText
from levelwalks.forms import Form
from levelwalks.storing import Stored, are_sizes, is_large, level_of

# The lines ahead of the levels: the sizes and the form.
HEAD_LINES = 2


def spaced(words):
    """Return words, and integers as Python writes them, separated by one space."""
    return " ".join([str(word) for word in words])


def level_line(level):
    """Return the line of a level."""
    if level[0] == "dense":
        return "dense"
    if level[0] != "hashed":
        kind, starts, told = level
        return spaced([kind, *starts, "/", *told])
    words = ["hashed"]
    for bucket in level[1]:
        words.extend([f"{upper}:{c}:{place}" for upper, c, place in bucket])
        words.append("/")
    return spaced(words)


def table_text(stored):
    """Return the text of a stored table."""
    lines = [spaced(["sizes", *stored.sizes]), spaced(["form", stored.form.text])]
    lines.extend([level_line(level) for level in stored.levels])
    lines.append(spaced(["values", *stored.data]))
    return "\n".join(lines)


def integers_in(words):
    """Return the integers that are written as these words, or None."""
    integers = [whole_in(word) for word in words]
    if any([n is None for n in integers]):
        return None
    return integers


def integers_behind(line, word):
    """Return the integers of a line that begins with a word, or None."""
    words = line.split(" ")
    if words[0] != word:
        return None
    return integers_in(words[1:])


def sizes_in(line):
    """Return the sizes that a line tells, or None."""
    sizes = integers_behind(line, "sizes")
    if sizes is None or not are_sizes(tuple(sizes)):
        return None
    return sizes


def form_in(line, level_count):
    """Return the form that a line tells, or None if it has another number of levels."""
    start, blank, told = line.partition(" ")
    if start != "form":
        return None
    try:
        form = Form.read(told)
    except BadForm:
        return None
    return form if len(form.kinds) == level_count else None


def halves_of(words):
    """Return the integers ahead of the only slash and those behind it, or None twice."""
    if words.count("/") != 1:
        return None, None
    cut = words.index("/")
    return integers_in(words[:cut]), integers_in(words[cut + 1:])


def packed_rows(words, upper_count):
    """Return the rows that the words of a packed level seem to tell, or None."""
    starts, coordinates = halves_of(words)
    if starts is None or coordinates is None or len(starts) != upper_count + 1:
        return None
    return [coordinates[starts[upper]:starts[upper + 1]] for upper in range(upper_count)]


def bits_rows(words, size, upper_count):
    """Return the rows that the words of a bits level seem to tell, or None."""
    starts, masks = halves_of(words)
    if starts is None or masks is None or len(masks) != upper_count:
        return None
    return [[c for c in range(size) if (mask >> c) & 1 == 1] for mask in masks]


def hashed_rows(words, size, upper_count):
    """Return the rows that the words of a hashed level seem to tell, or None."""
    entries = [integers_in(word.split(":")) for word in words if word != "/"]
    if any([entry is None or len(entry) != 3 for entry in entries]):
        return None
    found = {(entry[0], entry[1]): True for entry in entries}
    return [[c for c in range(size) if (upper, c) in found] for upper in range(upper_count)]


def seeming_rows(kind, size, upper_count, words):
    """Return the rows that the words behind the first one seem to tell, or None."""
    if kind == "dense":
        return [list(range(size)) for upper in range(upper_count)]
    if kind == "packed":
        return packed_rows(words, upper_count)
    if kind == "bits":
        return bits_rows(words, size, upper_count)
    return hashed_rows(words, size, upper_count)


def rows_in(line, kind, size, upper_count):
    """Return the coordinates below each place above that the line of a level tells, or None."""
    rows = seeming_rows(kind, size, upper_count, line.split(" ")[1:])
    if rows is None:
        return None
    if not all([row == [c for c in range(size) if c in row] for row in rows]):
        return None
    # Rows have one line only, so that a line with anything else in it is not theirs.
    if level_line(level_of(kind, size, rows)) != line:
        return None
    return rows


def all_lead(origins, leading):
    """Tell whether of the places with the same origin at least one is leading on to a value."""
    led = {origin: True for origin, leads in zip(origins, leading) if leads}
    return all([origin is None or origin in led for origin in origins])


def values_in(line, origins):
    """Return the values that a line tells, or None if they cannot be those of the places."""
    values = integers_behind(line, "values")
    if values is None or len(values) != len(origins):
        return None
    if any([is_large(value) for value in values]):
        return None
    return values if all_lead(origins, [value != 0 for value in values]) else None


def line_at(lines, at):
    """Return the line with this number, counted from 0."""
    if at >= len(lines):
        raise BadText(len(lines) + 1)
    return lines[at]


def read_paths(lines, sizes, form):
    """Return the paths of the last level, and the origin of each of them.

    The origin is the part of a path down to the nearest level that is not dense: each of these
    parts must lead to a value that is not 0. It is None where all levels are dense.
    """
    paths = [()]
    origins = [None]
    for level in range(len(form.kinds)):
        at = HEAD_LINES + level
        kind = form.kinds[level]
        rows = rows_in(line_at(lines, at), kind, sizes[form.axes[level]], len(paths))
        if rows is None or not all_lead(origins, [len(row) > 0 for row in rows]):
            raise BadText(at + 1)
        origins = [origin for origin, row in zip(origins, rows) for c in row]
        paths = [(*path, c) for path, row in zip(paths, rows) for c in row]
        if kind != "dense":
            origins = list(paths)
    return paths, origins


def coordinates_of(form, path):
    """Return the coordinates of a path, in the order of the axes."""
    return tuple([path[form.axes.index(axis)] for axis in range(len(form.axes))])


def read_table(text):
    """Return the stored table with this text."""
    lines = text.split("\n")
    sizes = sizes_in(lines[0])
    if sizes is None:
        raise BadText(1)
    form = form_in(line_at(lines, 1), len(sizes))
    if form is None:
        raise BadText(2)
    paths, origins = read_paths(lines, sizes, form)
    last = HEAD_LINES + len(sizes)
    values = values_in(line_at(lines, last), origins)
    if values is None:
        raise BadText(last + 1)
    if len(lines) > last + 1:
        raise BadText(last + 2)
    cells = {coordinates_of(form, path): value for path, value in zip(paths, values)}
    return Stored(sizes, form, cells)
