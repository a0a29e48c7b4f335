"""Following a program at one point, where it is known which stored paths exist there."""

from levelwalks.basics import ascending
from levelwalks.families import pairs_down_to
from levelwalks.programs import Add, Block, level_letters, resolved_count
from levelwalks.statements import amount_at, coordinates_at
from levelwalks.storing import leads_of


class Followed:
    """What a program does at a point: the letters that are bound in each turn, and its adds with their places."""

    def __init__(self, turns, adds):
        self.turns = turns
        self.adds = adds


def reach(form, led):
    """Return how many levels store the path of a point.

    For each level `led` tells whether the path down to it leads to a value.
    """
    for level, kind in enumerate(form.kinds):
        if kind != "dense" and not led[level]:
            return level
    return len(form.kinds)


def is_led(program, loop, bound, reaches):
    """Tell whether a loop takes the coordinate of its letter at the point."""
    return any([
        all([reaches[number] > resolved_count(program.uses[number], bound) for number in group])
        for group in loop.leaders
    ])


def case_number(program, loop, bound, reaches):
    """Return the number of the first case all of whose needs live at the point, or None."""
    for at, (needs, node) in enumerate(loop.cases):
        if all([reaches[number] >= resolved_count(program.uses[number], bound) for number in needs]):
            return at
    return None


def followed(program, reaches):
    """Return what a legal program does at a point, where `reaches` has the reach of each use."""
    turns = []
    adds = []
    waiting = [((), program.node, ())]
    while len(waiting) > 0:
        place, node, bound = waiting.pop()
        if isinstance(node, Add):
            adds.append((place, node))
        elif isinstance(node, Block):
            inner = [((*place, at), each, bound) for at, each in enumerate(node.nodes)]
            waiting.extend(inner[::-1])
        elif is_led(program, node, bound, reaches):
            bound = (*bound, node.letter)
            turns.append(ascending(bound))
            at = case_number(program, node, bound, reaches)
            if at is not None:
                waiting.append(((*place, at), node.cases[at][1], bound))
    return Followed(turns, adds)


class Follower:
    """Follows a legal program at the point of small tables, for one pattern after the other."""

    def __init__(self, program):
        self.program = program
        self.members = [
            [(use.name, pairs_down_to(use, level + 1)) for level in range(len(use.letters))]
            for use in program.uses
        ]
        self.known = {}

    def followed_where(self, existing):
        """Return what the program does where just these members of a family exist."""
        reaches = tuple([
            reach(use.form, [member in existing for member in members])
            for use, members in zip(self.program.uses, self.members)
        ])
        # Many patterns differ only in what other programs walk.
        if reaches not in self.known:
            self.known[reaches] = followed(self.program, reaches)
        return self.known[reaches]


def reach_at(use, leads, spot):
    """Return the reach of a use at a point, where `leads` are the paths of its table that lead to values."""
    path = coordinates_at(level_letters(use), spot)
    return reach(use.form, [path[:level + 1] in leads for level in range(len(path))])


def additions_at(program, tables, points):
    """Return the additions (point, amount) that a legal program makes at these points."""
    leads = [leads_of(tables[use.name], use.form) for use in program.uses]
    found = []
    for point in points:
        spot = dict(zip(program.letters, point))
        reaches = [reach_at(use, paths, spot) for use, paths in zip(program.uses, leads)]
        for place, add in followed(program, reaches).adds:
            found.append((point, amount_at(add.expression, tables, spot)))
    return found
