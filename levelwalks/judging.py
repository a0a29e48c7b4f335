"""Comparing programs for all tables."""

from levelwalks.errors import NotComparable
from levelwalks.expressions import access, text_of
from levelwalks.families import Family, pairs_down_to
from levelwalks.following import Follower
from levelwalks.forms import Form
from levelwalks.polynomials import Polynomial, parting, polynomial
from levelwalks.programs import Add, Loop, Program, Use, check, placed_adds


class Verdict:
    """Whether something holds for all tables, and if not, tables and a point or a binding at which it does not."""

    def __init__(
        self, holds, pattern_count=None, sizes=None, cells=None, point=None, binding=None, what=None, numbers=None
    ):
        self.holds = holds
        self.pattern_count = pattern_count
        self.sizes = sizes
        self.cells = cells
        self.point = point
        self.binding = binding
        self.what = what
        self.numbers = numbers

    def __bool__(self):
        return bool(self.holds)


def existing_members(family, pattern):
    """Return the members that exist in a pattern, each with True."""
    return {member: True for member, existing in zip(family.members, pattern) if existing}


def use_unknowns(program):
    """Return for each use the unknown of its access, and the member of all its pairs."""
    return [
        (text_of(access(use.name, *use.letters)), (use.name, pairs_down_to(use, len(use.letters))))
        for use in program.uses
    ]


class Amounts:
    """The polynomials that a legal program adds at the point of small tables, for one pattern after the other."""

    def __init__(self, program):
        self.follower = Follower(program)
        self.unknowns = use_unknowns(program)
        self.spellings = {place: text_of(add.expression) for place, add in placed_adds(program)}
        self.polynomials = {}
        for place, add in placed_adds(program):
            if self.spellings[place] not in self.polynomials:
                self.polynomials[self.spellings[place]] = polynomial(add.expression)
        self.known = {}

    def missing(self, existing):
        """Return the unknowns of the accesses that have no value where just these members exist."""
        return tuple([name for name, member in self.unknowns if member not in existing])

    def amount(self, place, existing):
        """Return what the add at a place adds where just these members exist."""
        return self.polynomials[self.spellings[place]].without(self.missing(existing))

    def added(self, existing):
        """Return the sum of what the program adds where just these members exist."""
        places = tuple([place for place, add in self.follower.followed_where(existing).adds])
        key = (places, self.missing(existing))
        if key not in self.known:
            total = Polynomial.constant(0)
            for place in places:
                total = total + self.amount(place, existing)
            self.known[key] = total
        return self.known[key]


def check_comparable(first, second):
    """Raise NotComparable if two programs, or a program and a statement, have unlike letters or targets."""
    if first.letters != second.letters or first.target.parts != second.target.parts:
        raise NotComparable()


def parted_verdict(family, pattern, sums, unknowns, values):
    """Return the verdict for two sums that differ for these values of the unknowns."""
    told = {member: values[name] for name, member in unknowns if name in values}
    return Verdict(
        False,
        sizes=len(family.letters) + 1,
        cells=family.small_tables(pattern, told),
        point=tuple(range(len(family.letters))),
        numbers=tuple([p(values) for p in sums]),
    )


def same_amounts(first, second):
    """Return the verdict whether two legal programs add the same amounts at every point of all tables."""
    family = Family(first, second)
    amounts = [Amounts(first), Amounts(second)]
    unknowns = [pair for each in amounts for pair in each.unknowns]
    patterns = family.patterns()
    for pattern in patterns:
        existing = existing_members(family, pattern)
        sums = [each.added(existing) for each in amounts]
        values = parting(sums[0], sums[1])
        if values is not None:
            return parted_verdict(family, pattern, sums, unknowns, values)
    return Verdict(True, pattern_count=len(patterns))


def alike(first, second):
    """Return the verdict whether two programs add the same amounts at every point of all tables."""
    check(first)
    check(second)
    check_comparable(first, second)
    return same_amounts(first, second)


def right(program, statement):
    """Return the verdict whether a program is right for a statement."""
    check(program)
    check_comparable(program, statement)
    return same_amounts(program, full(statement))


def dense_form(rank):
    """Return the form of dense levels in the order of the axes."""
    kinds = ["dense"] * rank
    return Form(*kinds)


def full(statement):
    """Return the program that goes through all points of a statement."""
    pairs = {pair: True for pair in statement.expression.accesses}
    uses = [Use(name, letters, dense_form(len(letters))) for name, letters in pairs]
    node = Add(statement.expression)
    for letter in statement.letters[::-1]:
        node = Loop(letter, ((),), (((), node),))
    return Program(statement.target, uses, node)


def count_pairs(letters, first, second):
    """Return what two programs count at a point: tuples of the bound letters, what is counted, and both numbers."""
    turns = {bound: True for bound in [*first.turns, *second.turns]}
    found = [(bound, "turns", (first.turns.count(bound), second.turns.count(bound))) for bound in turns]
    return [*found, (letters, "additions", (len(first.adds), len(second.adds)))]


def more_verdict(family, pattern, counted):
    """Return the verdict for a pattern in which the first program counts more than the second one."""
    bound, what, numbers = counted
    return Verdict(
        False,
        sizes=len(family.letters) + 1,
        cells=family.small_tables(pattern),
        binding=tuple([(letter, family.letters.index(letter)) for letter in bound]),
        what=what,
        numbers=numbers,
    )


def never_more(first, second):
    """Return the verdict whether a program never makes more turns or additions than another one."""
    check(first)
    check(second)
    check_comparable(first, second)
    family = Family(first, second)
    followers = [Follower(first), Follower(second)]
    patterns = family.patterns()
    for pattern in patterns:
        existing = existing_members(family, pattern)
        both = [each.followed_where(existing) for each in followers]
        for counted in count_pairs(family.letters, both[0], both[1]):
            if counted[2][0] > counted[2][1]:
                return more_verdict(family, pattern, counted)
    return Verdict(True, pattern_count=len(patterns))
