"""Orders of letters in which the uses of a program fit."""

from levelwalks.basics import ascending, chosen, frozen
from levelwalks.errors import Ring
from levelwalks.forms import Form
from levelwalks.programs import Use, level_letters


def use_steps(number, use):
    """Return the triples (upper, number, letter) of a use: the letter of a packed level is bound behind the upper."""
    letters = level_letters(use)
    return [
        (upper, number, letters[level])
        for level, kind in enumerate(use.form.kinds)
        if kind == "packed"
        for upper in letters[:level]
    ]


def steps_of(uses, numbers):
    """Return the steps of the uses with these numbers."""
    return [step for number in numbers for step in use_steps(number, uses[number])]


def ring_in(steps, letters):
    """Return steps that lead in a ring, where a step leads to each of the letters from one of them."""
    found = []
    reached = [letters[0]]
    while reached[-1] not in reached[:-1]:
        step = [each for each in steps if each[2] == reached[-1] and each[0] in letters][0]
        found.append(step)
        reached.append(step[0])
    # The search goes from each letter up to the one before it, and the ring the other way round.
    return tuple(found[reached.index(reached[-1]):][::-1])


def order_or_ring(steps, letters):
    """Return the least order that the steps allow, and None, or None and a ring of steps."""
    order = ()
    left = list(ascending(letters))
    while len(left) > 0:
        held = {letter: True for upper, number, letter in steps if upper in left}
        free = [letter for letter in left if letter not in held]
        if len(free) == 0:
            return None, ring_in(steps, left)
        order = (*order, free[0])
        left = [letter for letter in left if letter != free[0]]
    return order, None


def fitting_order(uses, letters):
    """Return the least order of the letters that all uses fit."""
    order, ring = order_or_ring(steps_of(uses, list(range(len(uses)))), letters)
    if order is None:
        raise Ring(ring)
    return order


def turned(use, order):
    """Return a use with the same kinds of levels, whose letters stand in the sequence of the order."""
    sequence = frozen(order)
    letters = sorted(use.letters, key=lambda letter: sequence.index(letter))
    axes = [use.letters.index(letter) for letter in letters]
    kinds = use.form.kinds
    return Use(use.name, use.letters, Form(*kinds, axes=axes))


def tried_without(uses, letters, many):
    """Return triples (numbers, order, ring) for all ways to leave out so many uses."""
    every = list(range(len(uses)))
    found = []
    for numbers in chosen(every, many):
        others = [number for number in every if number not in numbers]
        order, ring = order_or_ring(steps_of(uses, others), letters)
        found.append((numbers, order, ring))
    return found


def fewest_turned(uses, letters):
    """Return the fewest uses to turn so that the others fit one order, this order, and why fewer are not enough."""
    tried = [each for many in range(len(uses) + 1) for each in tried_without(uses, letters, many)]
    numbers, order, ring = [each for each in tried if each[1] is not None][0]
    rings = [(each[0], each[2]) for each in tried if len(each[0]) < len(numbers)]
    return numbers, order, tuple(rings)
