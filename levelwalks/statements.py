"""Statements, which describe the cells of one table by those of others, and what they mean."""

from levelwalks.basics import all_coordinates, ascending
from levelwalks.errors import NoTable, NotAnAccess, RankClash, SizeClash, TooLarge
from levelwalks.expressions import check_expression, is_access, text_of, value_of
from levelwalks.reading import Reader, is_name
from levelwalks.storing import is_large

STATEMENT_SIGNS = ("=", "+=", "-=")


class Statement:
    """A target, a sign and an expression. It never changes."""

    def __init__(self, target, expression, sign="="):
        if not is_access(target):
            raise NotAnAccess()
        check_expression(expression)
        self.target = target
        self.expression = expression
        self.sign = sign
        self.letters = ascending(target.letters + expression.letters)

    @property
    def text(self):
        return text_of(self.target) + " " + self.sign + " " + text_of(self.expression)

    @classmethod
    def read(cls, text):
        """Return the statement with this text."""
        reader = Reader(text)
        name = reader.longest(is_name)
        target = reader.accessed(name)
        reader.skip(" ")
        sign = reader.one_of(STATEMENT_SIGNS)
        reader.skip(" ")
        expression = reader.operand()
        reader.check_end()
        return Statement(target, expression, sign)


def check_tables(accesses, tables):
    """Raise the error of the first access without a table, or with one of another number of axes."""
    for name, letters in accesses:
        if name not in tables:
            raise NoTable(name)
        if len(tables[name].sizes) != len(letters):
            raise RankClash(name)


def letter_sizes(accesses, tables):
    """Return the size of each letter, if the tables fit the accesses."""
    check_tables(accesses, tables)
    pairs = [pair for name, letters in accesses for pair in zip(letters, tables[name].sizes)]
    sizes = dict(pairs)
    clashing = [letter for letter, size in pairs if size != sizes[letter]]
    if len(clashing) > 0:
        raise SizeClash(ascending(clashing)[0])
    return sizes


def coordinates_at(letters, spot):
    """Return the coordinates that letters get, where `spot` has the one of each letter."""
    return tuple([spot[letter] for letter in letters])


def amount_at(expression, tables, spot):
    """Return the value of an expression at a point."""
    accesses = expression.accesses
    values = {(name, letters): tables[name][coordinates_at(letters, spot)] for name, letters in accesses}
    return value_of(expression, values)


def sums_of(statement, tables, sizes):
    """Return the sum of the amounts at all coordinates of the target, in ascending order."""
    letters = statement.target.parts[1]
    sums = {at: 0 for at in all_coordinates([sizes[letter] for letter in letters])}
    for point in all_coordinates([sizes[letter] for letter in statement.letters]):
        spot = dict(zip(statement.letters, point))
        at = coordinates_at(letters, spot)
        sums[at] = sums[at] + amount_at(statement.expression, tables, spot)
    return sums


def new_value(sign, old, total):
    """Return what a sign makes of an old value and a sum."""
    if sign == "+=":
        return old + total
    if sign == "-=":
        return old - total
    return total


def new_cells(statement, tables, sums):
    """Return the new cells of the target, without zeros, where `sums` are in ascending order."""
    table = tables[statement.target.parts[0]]
    worths = {at: new_value(statement.sign, table[at], sums[at]) for at in sums}
    for at in worths:
        if is_large(worths[at]):
            raise TooLarge(at)
    return {at: worths[at] for at in worths if worths[at] != 0}


def statement_sizes(statement, tables):
    """Return the size of each letter, if the tables fit a statement."""
    return letter_sizes([statement.target.parts, *statement.expression.accesses], tables)


def plain(statement, tables):
    """Return the new cells of the target, as the statement describes them."""
    sizes = statement_sizes(statement, tables)
    return new_cells(statement, tables, sums_of(statement, tables, sizes))
