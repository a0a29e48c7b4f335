"""Shops, which keep tables, run statements on them, and keep results up to date."""

from levelwalks.basics import frozen, is_whole
from levelwalks.counts import Counts
from levelwalks.errors import (
    KeptTable, NoBetter, NoTable, NotAnExpression, NotComparable, NotKeepable, Parted, RankClash, TableExists,
)
from levelwalks.expressions import ASSIGNED_KINDS, access, number
from levelwalks.judging import never_more, right
from levelwalks.keeping import (
    State, bring_up, check_ring, draft_of, run_statement, standard_key, standing_program,
)
from levelwalks.programs import use_accesses
from levelwalks.statements import Statement, statement_sizes
from levelwalks.storing import Stored

ASSIGNED_SIGNS = {"gain": "+=", "loss": "-="}


def key_of(at):
    """Return what stands in the brackets behind a table as a tuple."""
    return frozen(at) if isinstance(at, (tuple, list)) else (at,)


def are_letters(key):
    """Tell whether what stands in the brackets behind a table is letters."""
    return all([isinstance(part, str) for part in key])


def stored_in(shop, name):
    """Return the stored table with a name."""
    if name not in shop.state.owners:
        raise NoTable(name)
    return shop.state.tables[name]


def stored_of(table):
    """Return the stored table of a table that belongs to its shop."""
    # Another table may have the name now, if this one was made in a batch that was undone.
    if table.shop.state.owners.get(table.name) != table:
        raise NoTable(table.name)
    return table.shop.state.tables[table.name]


def access_of(table, letters):
    """Return the access of a table with these letters."""
    if len(letters) != len(table.sizes):
        raise RankClash(table.name)
    return access(table.name, *letters)


def assigned_statement(target, worth):
    """Return the statement that an assignment to an access runs."""
    if is_whole(worth):
        return Statement(target, number(worth))
    if worth.kind not in ASSIGNED_KINDS:
        return Statement(target, worth)
    accessed, expression = worth.parts
    if accessed.parts != target.parts:
        raise NotAnExpression()
    return Statement(target, expression, ASSIGNED_SIGNS[worth.kind])


class Table:
    """A table of a shop, under its name."""

    def __init__(self, shop, name, sizes):
        self.shop = shop
        self.name = name
        self.sizes = sizes

    @property
    def stored(self):
        return stored_of(self)

    @property
    def kept(self):
        stored_of(self)
        return self.name in self.shop.state.keepers

    @property
    def form(self):
        return stored_of(self).form

    @form.setter
    def form(self, value):
        stored_of(self)
        self.shop.reform(self.name, value)

    def __getitem__(self, at):
        key = key_of(at)
        if are_letters(key):
            return access_of(self, key)
        return stored_of(self)[key]

    def __setitem__(self, at, worth):
        key = key_of(at)
        # The empty tuple is coordinates only where a value is assigned to a table without axes.
        is_value = len(stored_of(self).sizes) == 0 and is_whole(worth)
        if are_letters(key) and not (len(key) == 0 and is_value):
            self.shop.run(assigned_statement(access_of(self, key), worth))
        else:
            self.shop.put(self.name, key, worth)

    def __contains__(self, at):
        return at in stored_of(self)

    def __len__(self):
        return len(stored_of(self))

    def __iter__(self):
        raise TypeError("a table is not iterated; the entries of its stored table are")


class Saved:
    """A state to which a batch goes back, and what the batch has saved earlier."""

    def __init__(self, state, earlier):
        self.state = state
        self.earlier = earlier


class Batch:
    """A block that changes a shop as a whole, or not at all."""

    def __init__(self, shop):
        self.shop = shop
        self.saved = None

    def __enter__(self):
        self.saved = Saved(self.shop.state, self.saved)
        return self

    def __exit__(self, kind, value, trace):
        if kind is not None:
            self.shop.state = self.saved.state
        self.saved = self.saved.earlier


class Shop:
    """Keeps tables by name, the best programs for statements, and results."""

    def __init__(self):
        self.state = State({}, {}, {}, {}, Counts())

    @property
    def names(self):
        return tuple(sorted(self.state.owners))

    @property
    def spent(self):
        return self.state.bill

    def __getitem__(self, name):
        if name not in self.state.owners:
            raise NoTable(name)
        return self.state.owners[name]

    def __contains__(self, name):
        return name in self.state.owners

    def __iter__(self):
        raise TypeError("a shop is not iterated; its names are")

    def table(self, name, sizes, form, cells=None):
        """Make a table and return it."""
        if name in self.state.owners:
            raise TableExists(name)
        draft = draft_of(self.state)
        draft.tables[name] = Stored(sizes, form, {} if cells is None else cells)
        draft.owners[name] = Table(self, name, draft.tables[name].sizes)
        self.state = draft
        return draft.owners[name]

    def put(self, name, at, value):
        """Set the value of a table at some coordinates."""
        stored = stored_in(self, name)
        if name in self.state.keepers:
            raise KeptTable(name)
        draft = draft_of(self.state)
        draft.tables[name] = stored.changed(key_of(at), value)
        bring_up(draft, self.state.tables)
        self.state = draft

    def reform(self, name, form):
        """Store a table in another form."""
        stored = stored_in(self, name)
        draft = draft_of(self.state)
        draft.tables[name] = stored.restored(form)
        self.state = draft

    def run(self, statement):
        """Run a statement by its standing program, and return the counts of the run."""
        name = statement.target.parts[0]
        statement_sizes(statement, self.state.tables)
        if name in self.state.keepers:
            raise KeptTable(name)
        draft = draft_of(self.state)
        counts = run_statement(draft, statement)
        bring_up(draft, self.state.tables)
        self.state = draft
        return counts

    def standing(self, statement):
        """Return the standing program of a statement."""
        statement_sizes(statement, self.state.tables)
        draft = draft_of(self.state)
        program = standing_program(draft, statement)
        self.state = draft
        return program

    def offer(self, statement, program):
        """Make a program the standing program of a statement, if it is right and better than the present one."""
        statement_sizes(statement, self.state.tables)
        rightness = right(program, statement)
        if not all([pair in statement.expression.accesses for pair in use_accesses(program)]):
            raise NotComparable()
        if not rightness.holds:
            raise Parted(rightness)
        draft = draft_of(self.state)
        present = standing_program(draft, statement)
        verdict = never_more(program, present)
        if not verdict.holds:
            raise NoBetter(verdict)
        verdict = never_more(present, program)
        if verdict.holds:
            raise NoBetter(verdict)
        draft.standards[standard_key(statement)] = program
        self.state = draft

    def keep(self, statement):
        """Make the target a kept table, and return the counts of the run that gives it its cells."""
        name = statement.target.parts[0]
        statement_sizes(statement, self.state.tables)
        if statement.sign != "=":
            raise NotKeepable()
        if name in self.state.keepers:
            raise KeptTable(name)
        check_ring(self.state.keepers, statement)
        draft = draft_of(self.state)
        counts = run_statement(draft, statement)
        draft.keepers[name] = statement
        bring_up(draft, self.state.tables)
        self.state = draft
        return counts

    def batch(self):
        """Return a block that undoes what it has changed if it is left by an error."""
        return Batch(self)

    def together(self, steps):
        """Call functions without parameters, one after the other, in a batch."""
        with self.batch():
            for step in list(steps):
                step()
