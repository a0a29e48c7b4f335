"""What a shop holds, and bringing kept tables up to date."""

from levelwalks.basics import all_coordinates
from levelwalks.counts import Counts
from levelwalks.errors import KeepRing, KeptFailed, TooLarge
from levelwalks.expressions import text_of
from levelwalks.following import additions_at
from levelwalks.making import lower
from levelwalks.running import walked
from levelwalks.statements import coordinates_at, new_cells, statement_sizes
from levelwalks.storing import Stored, is_large


class State:
    """What a shop holds at one moment.

    A call of the shop changes a draft, which becomes the state of the shop if the call raises no error.
    """

    def __init__(self, owners, tables, keepers, standards, bill):
        # The object of the class Table, and the stored table, of each name.
        self.owners = owners
        self.tables = tables
        # The statement of each kept table, and the standing program of each statement without its sign.
        self.keepers = keepers
        self.standards = standards
        self.bill = bill


def draft_of(state):
    """Return a state with the same contents that may be changed."""
    return State(dict(state.owners), dict(state.tables), dict(state.keepers), dict(state.standards), state.bill)


def standard_key(statement):
    """Return what statements with one standing program have in common."""
    return text_of(statement.target) + " = " + text_of(statement.expression)


def standing_program(draft, statement):
    """Return the standing program of a statement that the tables fit, which is made if there is none."""
    key = standard_key(statement)
    if key not in draft.standards:
        forms = {name: draft.tables[name].form for name, letters in statement.expression.accesses}
        draft.standards[key] = lower(statement, forms)
    return draft.standards[key]


def put_cells(draft, name, cells):
    """Give a table new cells in its form."""
    table = draft.tables[name]
    draft.tables[name] = Stored(table.sizes, table.form, cells)


def run_statement(draft, statement):
    """Give the target of a statement its new cells, and return the counts of the run."""
    name, letters = statement.target.parts
    sizes = statement_sizes(statement, draft.tables)
    walk = walked(standing_program(draft, statement), draft.tables, sizes)
    places = all_coordinates([sizes[letter] for letter in letters])
    sums = {at: walk.sums.get(at, 0) for at in places}
    put_cells(draft, name, new_cells(statement, draft.tables, sums))
    draft.bill = draft.bill + walk.told_counts()
    return walk.told_counts()


def bases_of(keepers, name):
    """Return the names of the tables on which a kept table depends, each with True."""
    found = {}
    waiting = [name]
    while len(waiting) > 0:
        keeper = keepers.get(waiting.pop())
        names = [] if keeper is None else [each for each, letters in keeper.expression.accesses]
        for each in names:
            if each not in found:
                found[each] = True
                waiting.append(each)
    return found


def check_ring(keepers, statement):
    """Raise KeepRing for the first access whose table is the target, or is kept and depends on it."""
    target = statement.target.parts[0]
    for name, letters in statement.expression.accesses:
        if name == target or target in bases_of(keepers, name):
            raise KeepRing(name)


def update_order(keepers, changed):
    """Return the kept tables that depend on changed ones, each behind those of them on which it depends."""
    bases = {name: bases_of(keepers, name) for name in sorted(keepers)}
    waiting = [name for name in bases if any([each in bases[name] for each in changed])]
    found = []
    while len(waiting) > 0:
        ready = [name for name in waiting if not any([each in bases[name] for each in waiting])]
        found.append(ready[0])
        waiting = [name for name in waiting if name != ready[0]]
    return found


def changed_places(old, new):
    """Return the coordinates at which two tables of one shape have unlike values, each with True."""
    was = {at: value for at, value in old.entries()}
    now = {at: value for at, value in new.entries()}
    return {at: True for at in [*was, *now] if was.get(at, 0) != now.get(at, 0)}


def agreeing_points(statement, before, tables):
    """Return the points of a statement at which the table of some access has changed its value."""
    accesses = statement.expression.accesses
    changed = {name: changed_places(before[name], tables[name]) for name, letters in accesses}
    sizes = statement_sizes(statement, tables)
    found = []
    for point in all_coordinates([sizes[letter] for letter in statement.letters]):
        spot = dict(zip(statement.letters, point))
        if any([coordinates_at(letters, spot) in changed[name] for name, letters in accesses]):
            found.append(point)
    return found


def changed_sums(statement, program, before, tables, points):
    """Return by how much the sums of a target change at some points, and how many additions tell this."""
    gone = additions_at(program, before, points)
    made = additions_at(program, tables, points)
    found = {}
    undone = [(point, -amount) for point, amount in gone]
    for point, amount in [*undone, *made]:
        at = coordinates_at(statement.target.parts[1], dict(zip(statement.letters, point)))
        found[at] = found.get(at, 0) + amount
    return found, len(gone) + len(made)


def bring_one(draft, name, before):
    """Bring a kept table up to date, where all tables on which it depends are."""
    statement = draft.keepers[name]
    points = agreeing_points(statement, before, draft.tables)
    program = standing_program(draft, statement)
    sums, additions = changed_sums(statement, program, before, draft.tables, points)
    draft.bill = draft.bill + Counts(0, additions)
    cells = {at: value for at, value in draft.tables[name].entries()}
    for at in sorted(sums):
        cells[at] = cells.get(at, 0) + sums[at]
        if is_large(cells[at]):
            raise KeptFailed(name) from TooLarge(at)
    put_cells(draft, name, cells)


def bring_up(draft, before):
    """Bring all kept tables up to date, where `before` are the tables as they were ahead of the call."""
    other = [name for name in before if before[name] != draft.tables[name]]
    changed = [name for name in other if len(changed_places(before[name], draft.tables[name])) > 0]
    for name in update_order(draft.keepers, changed):
        bring_one(draft, name, before)
