"""Making programs for statements, and leaving out what is idle in them."""

from levelwalks.basics import chosen, frozen
from levelwalks.errors import BadForm, NoTable
from levelwalks.expressions import Expression, check_expression, number, value_of
from levelwalks.families import Family
from levelwalks.forms import leading_depth
from levelwalks.judging import Amounts, existing_members
from levelwalks.orders import fewest_turned, turned
from levelwalks.programs import (
    Add, Block, Loop, Program, Use, check, fits, inner_nodes, may_lead, resolved_count,
)

PRODUCT_KINDS = ("times", "both")
FIRST_KINDS = ("quotient", "remainder", "power", "left", "right", "negative", "absolute")
# Kinds that have another value than 0 where all their operands are 0.
SURE_KINDS = ("at_most", "equal")


def value_at_zero(expression):
    """Return the value of a kind with two operands, with 0 in the place of those that are no numbers."""
    parts = [part if part.kind == "number" else number(0) for part in expression.parts]
    return value_of(Expression(expression.kind, parts), {})


def is_active_pair(expression, living):
    """Tell whether an expression with two operands may have a value that is not 0."""
    numbers = [part for part in expression.parts if part.kind == "number"]
    if len(numbers) == 2:
        return value_at_zero(expression) != 0
    actives = [is_active(part, living) for part in expression.parts]
    if expression.kind in PRODUCT_KINDS:
        return all(actives)
    if len(numbers) == 1:
        others = [is_active(part, living) for part in expression.parts if part.kind != "number"]
        return others[0] or value_at_zero(expression) != 0
    return expression.kind in SURE_KINDS or any(actives)


def is_active(expression, living):
    """Tell whether an expression may have a value that is not 0, where `living` has the accesses that may."""
    kind = expression.kind
    if kind == "number":
        return expression.parts[0] != 0
    if kind == "access":
        return expression.parts in living
    if kind == "inverse":
        return True
    if kind in FIRST_KINDS:
        return is_active(expression.parts[0], living)
    return is_active_pair(expression, living)


def active(expression, living):
    """Tell whether an expression may have a value that is not 0 if only these accesses may have one."""
    check_expression(expression)
    return is_active(expression, {pair: True for pair in frozen(living)})


class Lowering:
    """Makes the nodes of a program for a statement, from uses that all fit an order."""

    def __init__(self, expression, uses, order):
        self.expression = expression
        self.uses = uses
        self.order = order
        self.known = {}

    def is_active_with(self, numbers):
        """Tell whether the expression is active if the accesses of these uses are living."""
        return is_active(self.expression, {(self.uses[at].name, self.uses[at].letters): True for at in numbers})

    def node_for(self, many, living):
        """Return the node for the places at which so many letters are bound and just these uses live."""
        if (many, living) not in self.known:
            self.known[(many, living)] = self.new_node(many, living)
        return self.known[(many, living)]

    def new_node(self, many, living):
        if many == len(self.order):
            return Add(self.expression)
        return Loop(self.order[many], self.leaders_for(many, living), self.cases_for(many, living))

    def leaders_for(self, many, living):
        """Return the least groups of uses that are enough, beside those that live and cannot lead."""
        leading = [at for at in living if may_lead(self.uses[at], self.order[many], self.order[:many])]
        others = [at for at in living if at not in leading]
        groups = []
        for size in range(len(leading) + 1):
            for group in chosen(leading, size):
                more = any([all([at in group for at in fewer]) for fewer in groups])
                if not more and self.is_active_with([*others, *group]):
                    groups.append(group)
        return groups

    def may_end(self, at, many):
        """Tell whether a use that lives may not live any more when the next letter is bound."""
        use = self.uses[at]
        depths = [resolved_count(use, self.order[:bound]) for bound in (many, many + 1)]
        return leading_depth(use.form, depths[0]) < leading_depth(use.form, depths[1])

    def cases_for(self, many, living):
        """Return one case for each set of uses that may go on living and with which the expression is active.

        The greater sets come first, so that in each case just the uses of its set live.
        """
        ending = [at for at in living if self.may_end(at, many)]
        sure = [at for at in living if at not in ending]
        found = []
        for size in range(len(ending), -1, -1):
            for needs in chosen(ending, size):
                if self.is_active_with([*sure, *needs]):
                    found.append((needs, self.node_for(many + 1, tuple(sorted([*sure, *needs])))))
        return found


def check_forms(accesses, forms):
    """Raise the error of the first access without a form, or with one of another number of levels."""
    for name, letters in accesses:
        if name not in forms:
            raise NoTable(name)
        if len(forms[name].kinds) != len(letters):
            raise BadForm()


def lower(statement, forms, order=None):
    """Return a program for a statement, where `forms` has the form of the table of each access."""
    accesses = statement.expression.accesses
    check_forms(accesses, forms)
    uses = [Use(name, letters, forms[name]) for name, letters in {pair: True for pair in accesses}]
    if order is None:
        turning, sequence, rings = fewest_turned(uses, statement.letters)
    else:
        sequence = frozen(order)
        turning = [at for at, use in enumerate(uses) if not fits(use, sequence)]
    uses = [turned(use, sequence) if at in turning else use for at, use in enumerate(uses)]
    lowering = Lowering(statement.expression, uses, sequence)
    living = tuple(range(len(uses)))
    node = lowering.node_for(0, living) if lowering.is_active_with(living) else Block(())
    return Program(statement.target, uses, node)


def useful_places(amounts, family):
    """Return the places of the adds that add something in some small tables, each with True."""
    found = {}
    for pattern in family.patterns():
        existing = existing_members(family, pattern)
        for place, add in amounts.follower.followed_where(existing).adds:
            if place not in found and len(amounts.amount(place, existing).terms) > 0:
                found[place] = True
    return found


def tightened_loop(loop, inner):
    """Return a loop with these nodes in its cases, where None stands for a node without adds."""
    last = max([at for at, node in enumerate(inner) if node is not None])
    nodes = [Block(()) if node is None else node for node in inner[:last + 1]]
    return Loop(loop.letter, loop.leaders, [(case[0], node) for case, node in zip(loop.cases, nodes)])


def tightened_node(node, place, useful):
    """Return a node without its idle parts, or None if no add is left in it."""
    if isinstance(node, Add):
        return node if place in useful else None
    inner = [tightened_node(each, (*place, at), useful) for at, each in enumerate(inner_nodes(node))]
    left = [each for each in inner if each is not None]
    if len(left) == 0:
        return None
    if isinstance(node, Block):
        return Block(left)
    return tightened_loop(node, inner)


def tightened(program):
    """Return a program without idle parts."""
    check(program)
    amounts = Amounts(program)
    useful = useful_places(amounts, Family(program))
    node = tightened_node(program.node, (), useful)
    return Program(program.target, program.uses, Block(()) if node is None else node)
