"""Families: the paths on which programs depend, and which of them exist together."""

from levelwalks.basics import ascending, frozen
from levelwalks.errors import Inconsistent, NoTable, RankClash
from levelwalks.programs import use_accesses


def pairs_down_to(use, depth):
    """Return the pairs (axis, letter) of the first levels of a use, ascending."""
    return tuple(sorted([(axis, use.letters[axis]) for axis in use.form.axes[:depth]]))


def use_members(use):
    """Return the members that a use has in a family."""
    kinds = use.form.kinds
    depths = [level + 1 for level, kind in enumerate(kinds) if kind != "dense"]
    return [(use.name, pairs_down_to(use, depth)) for depth in [*depths, len(kinds)]]


def ranks_of(programs):
    """Return the number of axes of each name, or raise RankClash for the first that has two."""
    ranks = {}
    for program in programs:
        for name, letters in [program.target.parts, *use_accesses(program)]:
            if ranks.setdefault(name, len(letters)) != len(letters):
                raise RankClash(name)
    return ranks


def is_part(inner, outer):
    """Tell whether a member exists wherever another one does."""
    return inner[0] == outer[0] and all([pair in outer[1] for pair in inner[1]])


def exists(table, pairs, spot):
    """Tell whether a table has a value at coordinates that agree with these pairs at a point."""
    return any([
        all([at[axis] == spot[letter] for axis, letter in pairs])
        for at, value in table.entries()
    ])


class Family:
    """The sets of pairs on which some programs depend. It never changes."""

    def __init__(self, *programs):
        # The dict that is told may be changed by the caller, so the family uses one of its own.
        self.ranks = ranks_of(programs)
        self.axis_counts = dict(self.ranks)
        self.letters = ascending([letter for program in programs for letter in program.letters])
        self.members = ascending([
            member for program in programs for use in program.uses for member in use_members(use)
        ])

    def may_follow(self, start, existing):
        """Tell whether the next member of a consistent start of a pattern may exist, or may not."""
        member = self.members[len(start)]
        earlier = list(zip(self.members, start))
        if existing:
            return all([found for other, found in earlier if is_part(other, member)])
        return not any([found for other, found in earlier if is_part(member, other)])

    def patterns(self):
        """Return all consistent patterns, ascending."""
        found = [()]
        for member in self.members:
            found = [
                (*start, existing)
                for start in found
                for existing in (False, True)
                if self.may_follow(start, existing)
            ]
        return found

    def pattern_at(self, tables, point):
        """Return which members exist in tables at a point."""
        for name, pairs in self.members:
            if name not in tables:
                raise NoTable(name)
            if len(tables[name].sizes) != self.axis_counts[name]:
                raise RankClash(name)
        spot = dict(zip(self.letters, frozen(point)))
        return tuple([exists(tables[name], pairs, spot) for name, pairs in self.members])

    def small_at(self, member):
        """Return the coordinates at which small tables have the cell of a member."""
        name, pairs = member
        found = [len(self.letters)] * self.axis_counts[name]
        for axis, letter in pairs:
            found[axis] = self.letters.index(letter)
        return tuple(found)

    def small_tables(self, pattern, values=None):
        """Return the cells of small tables in which a consistent pattern exists."""
        pattern = frozen(pattern)
        if not all([self.may_follow(pattern[:at], existing) for at, existing in enumerate(pattern)]):
            raise Inconsistent()
        told = {} if values is None else values
        cells = {name: {} for name in self.axis_counts}
        for member, existing in zip(self.members, pattern):
            if existing:
                cells[member[0]][self.small_at(member)] = told.get(member, 1)
        return cells
