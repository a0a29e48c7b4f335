"""Programs: trees of loops over stored tables, and whether they are legal."""

from levelwalks.basics import ascending, frozen
from levelwalks.errors import BadForm, Illegal, NotAnAccess
from levelwalks.expressions import check_expression, check_letters, is_access


class Use:
    """An access together with a form in which its table is walked."""

    def __init__(self, name, letters, form):
        self.name = name
        self.letters = frozen(letters)
        self.form = form
        check_letters(self.letters)
        if len(form.kinds) != len(self.letters):
            raise BadForm()


class Loop:
    """A letter, groups of uses that lead it, and cases, each with the uses that it needs."""

    def __init__(self, letter, leaders, cases):
        self.letter = letter
        self.leaders = frozen(leaders)
        self.cases = frozen(cases)


class Block:
    """Nodes one after the other."""

    def __init__(self, nodes):
        self.nodes = frozen(nodes)


class Add:
    """An expression whose value is added to the result."""

    def __init__(self, expression):
        check_expression(expression)
        self.expression = expression


class Program:
    """A target, uses and a node. It never changes."""

    def __init__(self, target, uses, node):
        if not is_access(target):
            raise NotAnAccess()
        self.target = target
        self.uses = frozen(uses)
        self.node = node
        self.letters = ascending([*target.letters, *[letter for use in self.uses for letter in use.letters]])


def level_letters(use):
    """Return the letters of the levels of a use, in their order."""
    return [use.letters[axis] for axis in use.form.axes]


def resolved_count(use, bound):
    """Return the number of the resolved levels of a use."""
    many = 0
    for letter in level_letters(use):
        if letter not in bound:
            return many
        many = many + 1
    return many


def next_level(use, bound):
    """Return the next level of a use, or None."""
    level = resolved_count(use, bound)
    return level if level < len(use.form.kinds) else None


def fits(use, bound):
    """Tell whether a use fits, where `bound` has the bound letters from the outside to the inside."""
    ranks = [bound.index(letter) for letter in level_letters(use)[:resolved_count(use, bound)]]
    return all([
        use.form.kinds[level] != "packed" or rank == max(ranks[:level + 1])
        for level, rank in enumerate(ranks)
    ])


def are_numbers(numbers, uses):
    """Tell whether numbers are those of uses, ascending and without duplicates."""
    return list(numbers) == [number for number in range(len(uses)) if number in numbers]


def may_lead(use, letter, bound):
    """Tell whether a use may lead a loop over a letter."""
    level = next_level(use, bound)
    if level is None or not fits(use, bound):
        return False
    return level_letters(use)[level] == letter and use.form.kinds[level] != "hashed"


def is_right_loop(program, loop, bound):
    """Tell whether a loop keeps the rules where these letters are bound."""
    if loop.letter not in program.letters or loop.letter in bound:
        return False
    needs = [case[0] for case in loop.cases]
    if not all([are_numbers(numbers, program.uses) for numbers in [*loop.leaders, *needs]]):
        return False
    leading = [program.uses[number] for group in loop.leaders for number in group]
    needed = [program.uses[number] for numbers in needs for number in numbers]
    if not all([may_lead(use, loop.letter, bound) for use in leading]):
        return False
    return all([fits(use, (*bound, loop.letter)) for use in needed])


def is_right_add(program, add, bound):
    """Tell whether an add keeps the rules where these letters are bound."""
    if not all([letter in bound for letter in program.letters]):
        return False
    fitting = {(use.name, use.letters): True for use in program.uses if fits(use, bound)}
    return all([pair in fitting for pair in add.expression.accesses])


def is_right_node(program, node, bound):
    """Tell whether a node keeps the rules where these letters are bound."""
    if isinstance(node, Loop):
        return is_right_loop(program, node, bound)
    if isinstance(node, Add):
        return is_right_add(program, node, bound)
    return True


def inner_nodes(node):
    """Return the nodes directly inside a node."""
    if isinstance(node, Loop):
        return [case[1] for case in node.cases]
    if isinstance(node, Block):
        return list(node.nodes)
    return []


def bound_inside(node, bound):
    """Return the letters that are bound inside a node."""
    if isinstance(node, Loop):
        return (*bound, node.letter)
    return bound


def placed_nodes(program):
    """Return triples of the place, the node and the bound letters for all nodes, each ahead of those inside it."""
    found = []
    waiting = [((), program.node, ())]
    while len(waiting) > 0:
        place, node, bound = waiting.pop()
        found.append((place, node, bound))
        bound = bound_inside(node, bound)
        inner = [((*place, at), each, bound) for at, each in enumerate(inner_nodes(node))]
        waiting.extend(inner[::-1])
    return found


def placed_adds(program):
    """Return pairs of the place and the node for all adds, in their order."""
    return [(place, node) for place, node, bound in placed_nodes(program) if isinstance(node, Add)]


def use_accesses(program):
    """Return the pairs (name, letters) of the uses of a program, in their order."""
    return [(use.name, use.letters) for use in program.uses]


def check(program):
    """Raise Illegal with the place of the first node that breaks a rule."""
    for place, node, bound in placed_nodes(program):
        if not is_right_node(program, node, bound):
            raise Illegal(place)
