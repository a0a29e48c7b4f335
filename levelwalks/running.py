"""Running programs on tables that fit them."""

from levelwalks.counts import Counts
from levelwalks.errors import TooLarge
from levelwalks.programs import Add, Block, check, level_letters, resolved_count, use_accesses
from levelwalks.statements import amount_at, coordinates_at, letter_sizes
from levelwalks.storing import is_large, is_stored, leads_of


class Result:
    """The sums of a run, its additions in their order, and its counts."""

    def __init__(self, cells, trace, counts):
        self.cells = cells
        self.trace = trace
        self.counts = counts


class Walk:
    """A run of a legal program on tables that fit it."""

    def __init__(self, program, tables, sizes):
        self.program = program
        self.tables = tables
        self.sizes = sizes
        self.leads = [leads_of(tables[use.name], use.form) for use in program.uses]
        self.turns = 0
        self.trace = []
        self.sums = {}

    def path(self, number, spot):
        """Return the coordinates of the resolved levels of a use."""
        use = self.program.uses[number]
        return coordinates_at(level_letters(use)[:resolved_count(use, spot)], spot)

    def stores(self, number, path):
        """Tell whether the table of a use stores a path."""
        return is_stored(self.program.uses[number].form, self.leads[number], path)

    def go(self, node, spot):
        """Run a node, where `spot` has the coordinates of the bound letters."""
        if isinstance(node, Add):
            self.note(node, spot)
        elif isinstance(node, Block):
            for inner in node.nodes:
                self.go(inner, spot)
        else:
            for c in self.candidates(node, spot):
                self.turn(node, {**spot, node.letter: c})

    def candidates(self, loop, spot):
        """Return the coordinates that a loop takes, ascending."""
        groups = [[(number, self.path(number, spot)) for number in group] for group in loop.leaders]
        return [
            c for c in range(self.sizes[loop.letter])
            if any([all([self.stores(number, (*path, c)) for number, path in group]) for group in groups])
        ]

    def turn(self, loop, spot):
        """Run the first case of a loop all of whose needs live, if there is one."""
        self.turns = self.turns + 1
        living = [self.stores(number, self.path(number, spot)) for number in range(len(self.leads))]
        for needs, inside in loop.cases:
            if all([living[number] for number in needs]):
                self.go(inside, spot)
                return

    def note(self, add, spot):
        """Add the value of an expression to the sum of the target's coordinates."""
        amount = amount_at(add.expression, self.tables, spot)
        at = coordinates_at(self.program.target.parts[1], spot)
        self.sums[at] = self.sums.get(at, 0) + amount
        self.trace.append((coordinates_at(self.program.letters, spot), amount))

    def told_counts(self):
        """Return the counts of the run."""
        return Counts(self.turns, len(self.trace))


def walked(program, tables, sizes):
    """Return the whole walk of a legal program, where `sizes` are those of its letters."""
    walk = Walk(program, tables, sizes)
    walk.go(program.node, {})
    return walk


def program_sizes(program, tables):
    """Return the size of each letter, if the tables fit a program."""
    return letter_sizes([program.target.parts, *use_accesses(program)], tables)


def run(program, tables):
    """Run a program on tables."""
    check(program)
    walk = walked(program, tables, program_sizes(program, tables))
    for at in sorted(walk.sums):
        if is_large(walk.sums[at]):
            raise TooLarge(at)
    cells = {at: walk.sums[at] for at in sorted(walk.sums) if walk.sums[at] != 0}
    return Result(cells, tuple(walk.trace), walk.told_counts())
