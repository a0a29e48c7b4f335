"""What several tests need: forms, tables and expressions, and plain models of what the document says of them."""

from itertools import permutations, product
from random import Random

from levelwalks import functions
from levelwalks.expressions import access, number

KINDS = ("dense", "packed", "bits", "hashed")


def shapes(axis_count):
    """All pairs (kinds, axes) of forms with this number of levels."""
    return [
        (kinds, axes)
        for kinds in product(KINDS, repeat=axis_count)
        for axes in permutations(range(axis_count))
    ]


def every_shape():
    return [shape for axis_count in range(4) for shape in shapes(axis_count)]


def text_of(kinds, axes):
    """The text that a form has by the document."""
    return ", ".join(kind + " " + str(axis) for kind, axis in zip(kinds, axes)) or "-"


# Pairs (sizes, cells), all right, with entries in no order and some zeros among them.
TABLES = (
    ((), {}),
    ((), {(): 0}),
    ((), {(): -9}),
    ((1,), {}),
    ((1,), {(0,): 3}),
    ((6,), {}),
    ((6,), {(5,): 1, (0,): -2, (3,): 0, (2,): 7}),
    ((2, 3), {(0, 1): 5, (1, 0): -2, (1, 2): 7}),
    ((3, 4), {}),
    ((3, 4), {(1, 2): 0}),
    ((3, 4), {(2, 3): 4, (0, 3): 2, (0, 0): 1, (1, 1): 0}),
    ((1, 6), {(0, 5): 8, (0, 4): -8}),
    ((6, 6), {(a, b): 6 * a - b for a in range(6) for b in range(6) if (a + b) % 3 == 0}),
    ((2, 3, 4), {}),
    ((2, 3, 4), {(1, 2, 3): 5, (1, 0, 3): 6, (0, 2, 0): -7, (1, 2, 0): 8, (0, 0, 0): 0}),
    ((3, 1, 2), {(2, 0, 1): 1, (0, 0, 1): 2, (0, 0, 0): 3}),
    ((6, 6, 6), {(5, 0, 5): 1, (0, 5, 0): 2, (5, 5, 5): 3, (0, 5, 4): 4, (5, 0, 4): 5}),
)


def has_value_below(path, axes, cells):
    """Whether some cell with a value that is not 0 agrees with a path of coordinates."""
    return any(
        value != 0 and all(at[axis] == c for axis, c in zip(axes, path))
        for at, value in cells.items()
    )


def level_paths(sizes, kinds, axes, cells):
    """The paths of each level from above level 0 on, ascending; the index of a path is its place."""
    found = [[()]]
    for kind, axis in zip(kinds, axes):
        found.append([
            path + (c,)
            for path in found[-1]
            for c in range(sizes[axis])
            if kind == "dense" or has_value_below(path + (c,), axes, cells)
        ])
    return found


def model_level(kind, size, above, paths):
    """One entry of `levels` for the paths of the level above and of this one."""
    if kind == "dense":
        return ("dense", size)
    if kind == "hashed":
        buckets = [[], [], [], [], [], [], [], []]
        for place, path in enumerate(paths):
            q = above.index(path[:-1])
            buckets[(q * 3 + path[-1]) % 8].append((q, path[-1], place))
        return ("hashed", tuple(map(tuple, buckets)))
    starts = tuple(sum(path[:-1] < upper for path in paths) for upper in above) + (len(paths),)
    if kind == "packed":
        return ("packed", starts, tuple(path[-1] for path in paths))
    masks = tuple(sum(2 ** path[-1] for path in paths if path[:-1] == upper) for upper in above)
    return ("bits", starts, masks)


def model_levels(sizes, kinds, axes, cells):
    paths = level_paths(sizes, kinds, axes, cells)
    return tuple(
        model_level(kind, sizes[axis], paths[number], paths[number + 1])
        for number, (kind, axis) in enumerate(zip(kinds, axes))
    )


def value_at_path(path, axes, cells):
    at = tuple(path[axes.index(axis)] for axis in range(len(axes)))
    return cells.get(at, 0)


def model_data(sizes, kinds, axes, cells):
    return tuple(
        value_at_path(path, axes, cells) for path in level_paths(sizes, kinds, axes, cells)[-1]
    )


def is_deep_tuple(worth):
    """Whether a value contains no list at any depth."""
    if isinstance(worth, tuple):
        return all(is_deep_tuple(part) for part in worth)
    return not isinstance(worth, (list, dict))


# Models of expressions: nested tuples of a kind and its parts, where an operand is a model and n an integer.
SIGNS = {
    "plus": "+", "minus": "-", "times": "*", "both": "&", "either": "|", "unlike": "^",
    "quotient": "//", "power": "**", "left": "<<", "right": ">>",
}
TWO_OPERANDS = (
    "plus", "minus", "times", "both", "either", "unlike",
    "greater", "lesser", "below", "at_most", "equal", "unequal",
)
NUMBERED = ("quotient", "remainder", "power", "left", "right")
ONE_OPERAND = ("negative", "inverse", "absolute")
NUMBERS_BEHIND = {
    "quotient": (1, -1, 2, -3, 10 ** 19, -(10 ** 19)),
    "remainder": (1, -1, 2, -3, 10 ** 19, -(10 ** 19)),
    "power": (1, 2, 3, 4),
    "left": (0, 1, 9, 10, 59, 60),
    "right": (0, 1, 9, 10, 59, 60),
}
VALUES = {
    "plus": lambda x, y: x + y, "minus": lambda x, y: x - y, "times": lambda x, y: x * y,
    "both": lambda x, y: x & y, "either": lambda x, y: x | y, "unlike": lambda x, y: x ^ y,
    "greater": max, "lesser": min,
    "below": lambda x, y: int(x < y), "at_most": lambda x, y: int(x <= y),
    "equal": lambda x, y: int(x == y), "unequal": lambda x, y: int(x != y),
    "quotient": lambda x, n: x // n, "remainder": lambda x, n: x % n, "power": lambda x, n: x ** n,
    "left": lambda x, n: x << n, "right": lambda x, n: x >> n,
    "negative": lambda x: -x, "inverse": lambda x: ~x, "absolute": abs,
}


def number_model(n):
    return ("number", n)


def access_model(name, letters=""):
    return ("access", name, tuple(letters))


SMALL_MODELS = (
    number_model(0), number_model(3), number_model(-3), number_model(10 ** 20 - 1), number_model(-(10 ** 20) + 1),
    access_model("s"), access_model("a", "i"), access_model("b", "ki"), access_model("abcdefgh", "zay"),
)


def flat_models():
    """Each kind, with small models of all sorts as operands."""
    found = list(SMALL_MODELS)
    for kind in TWO_OPERANDS:
        found += [(kind, x, y) for x in SMALL_MODELS[1:8] for y in (SMALL_MODELS[2], SMALL_MODELS[6])]
    for kind in NUMBERED:
        found += [(kind, x, n) for x in SMALL_MODELS[1:8] for n in NUMBERS_BEHIND[kind]]
    return found + [(kind, x) for kind in ONE_OPERAND for x in SMALL_MODELS]


def random_model(chance, depth):
    """A model with kinds within one another."""
    if depth == 0 or chance.random() < 0.15:
        return chance.choice(SMALL_MODELS)
    kind = chance.choice(TWO_OPERANDS + NUMBERED + ONE_OPERAND)
    if kind in TWO_OPERANDS:
        return (kind, random_model(chance, depth - 1), random_model(chance, depth - 1))
    if kind in NUMBERED:
        return (kind, random_model(chance, depth - 1), chance.choice(NUMBERS_BEHIND[kind]))
    return (kind, random_model(chance, depth - 1))


def deep_models(many=60, depth=3, seed=7):
    chance = Random(seed)
    return [random_model(chance, depth) for each in range(many)]


def operand_models(model):
    if model[0] in TWO_OPERANDS:
        return model[1:]
    if model[0] in NUMBERED + ONE_OPERAND:
        return model[1:2]
    return ()


def model_accesses(model):
    if model[0] == "access":
        return (model[1:],)
    return tuple(pair for part in operand_models(model) for pair in model_accesses(part))


def model_node_count(model):
    return 1 + sum(model_node_count(part) for part in operand_models(model))


def model_text(model):
    """The text that an expression has by the document."""
    kind = model[0]
    if kind == "number":
        return str(model[1])
    if kind == "access":
        return model[1] + "[" + ", ".join(model[2]) + "]"
    words = [model_text(part) for part in operand_models(model)]
    if kind in NUMBERED:
        words.append(str(model[2]))
    if kind in SIGNS:
        return "(" + words[0] + " " + SIGNS[kind] + " " + words[1] + ")"
    if kind in ("negative", "inverse"):
        return "(" + {"negative": "-", "inverse": "~"}[kind] + words[0] + ")"
    return kind + "(" + ", ".join(words) + ")"


def model_value(model, values):
    """The value by Python's own operators."""
    if model[0] == "number":
        return model[1]
    if model[0] == "access":
        return values[model[1:]]
    worths = [model_value(part, values) for part in operand_models(model)]
    if model[0] in NUMBERED:
        worths.append(model[2])
    return VALUES[model[0]](*worths)


def model_of(expression):
    """The model of an expression, as its kinds and parts tell it."""
    if expression.kind in ("number", "access"):
        return (expression.kind, *expression.parts)
    return (expression.kind, *(part if isinstance(part, int) else model_of(part) for part in expression.parts))


OPERATORS = {
    "plus": lambda x, y: x + y, "minus": lambda x, y: x - y, "times": lambda x, y: x * y,
    "both": lambda x, y: x & y, "either": lambda x, y: x | y, "unlike": lambda x, y: x ^ y,
    "greater": functions.greater, "lesser": functions.lesser, "below": functions.below,
    "at_most": functions.at_most, "equal": functions.equal, "unequal": functions.unequal,
    "quotient": lambda x, n: x // n, "remainder": lambda x, n: x % n, "power": lambda x, n: x ** n,
    "left": lambda x, n: x << n, "right": lambda x, n: x >> n,
    "negative": lambda x: -x, "inverse": lambda x: ~x, "absolute": abs,
}


def built(model):
    """The expression of a model, made by operators and functions."""
    if model[0] == "number":
        return number(model[1])
    if model[0] == "access":
        return access(model[1], *model[2])
    operands = [built(part) for part in operand_models(model)]
    if model[0] in NUMBERED:
        operands.append(model[2])
    return OPERATORS[model[0]](*operands)


def gains():
    """A gain and a loss."""
    gain = loss = access("a", "i")
    gain += access("b")
    loss -= 3
    return (gain, loss)


# A grammar of the texts, for all beginnings at once. A symbol is a sign; a tuple ("any", signs); or a
# tuple for which `replacements` gives the sequences of symbols in its place.
LOWER = "abcdefghijklmnopqrstuvwxyz"
EXPRESSION = ("expression",)
STATEMENT = (("access",), " ", ("assigns",), " ", EXPRESSION)
POSITIVE = (("any", "123456789"), ("digits",))


def words_of(words, behind=()):
    return [(*word, *behind) for word in words]


def integers_behind(kind):
    """The sequences for the integers that may stand behind an operand."""
    if kind == "power":
        return words_of("1234")
    if kind in ("left", "right"):
        return words_of(str(n) for n in range(61))
    return [POSITIVE, ("-", *POSITIVE)]


def expression_replacements():
    found = [("0",), POSITIVE, ("-", *POSITIVE), (("access",),)]
    found += [("(", "-", EXPRESSION, ")"), ("(", "~", EXPRESSION, ")"), ("(", EXPRESSION, " ", ("sign",), ")")]
    found += [(*"absolute(", EXPRESSION, ")"), (*"remainder(", EXPRESSION, *", ", ("behind", "remainder"), ")")]
    return found + [(*kind, "(", EXPRESSION, *", ", EXPRESSION, ")") for kind in TWO_OPERANDS if kind not in SIGNS]


def replacements(symbol):
    if symbol == EXPRESSION:
        return expression_replacements()
    if symbol[0] == "digits":
        return [(), (("any", "0123456789"), symbol)]
    if symbol[0] == "sign":
        found = [(*SIGNS[kind], " ", EXPRESSION) for kind in SIGNS if kind in TWO_OPERANDS]
        return found + [(*SIGNS[kind], " ", ("behind", kind)) for kind in SIGNS if kind in NUMBERED]
    if symbol[0] == "assigns":
        return words_of(("=", "+=", "-="))
    if symbol[0] == "behind":
        return integers_behind(symbol[1])
    if symbol[0] == "access":
        return [(("name", 8), "[", "]"), (("name", 8), "[", ("letters", ""), "]")]
    if symbol[0] == "name":
        longer = [(("any", LOWER), ("name", symbol[1] - 1))] if symbol[1] > 1 else []
        return [(("any", LOWER),)] + longer
    assert symbol[0] == "letters"
    used = symbol[1]
    found = [(letter,) for letter in LOWER if letter not in used]
    if len(used) < 2:
        found += [(letter, ",", " ", ("letters", used + letter)) for letter in LOWER if letter not in used]
    return found


def opened(stack):
    """All sequences that a sequence can stand for, as far as to their first signs."""
    if not stack or isinstance(stack[0], str) or stack[0][0] == "any":
        return [stack]
    return [found for start in replacements(stack[0]) for found in opened((*start, *stack[1:]))]


def first_wrong(text, start):
    """The index at which no text of this grammar goes on, the length if it must go on, or None if it is one."""
    stacks = set(opened(start))
    for at, sign in enumerate(text):
        behind = {stack[1:] for stack in stacks if stack and sign in stack[0][-1]}
        stacks = {found for stack in behind for found in opened(stack)}
        if not stacks:
            return at
    return None if () in stacks else len(text)


def changed_texts(text, signs):
    """A text cut off at each place, and with a sign put in, taken out, changed or exchanged there."""
    for at in range(len(text) + 1):
        yield text[:at]
        for sign in signs:
            yield text[:at] + sign + text[at:]
            yield text[:at] + sign + text[at + 1:]
        yield text[:at] + text[at + 1:]
        yield text[:at] + text[at:at + 1] + text[at:]
        yield text[:at] + text[at + 1:at + 2] + text[at:at + 1] + text[at + 2:]
