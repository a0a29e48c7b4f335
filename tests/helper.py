"""What several tests need: forms, tables and expressions, and plain models of what the document says of them."""

from itertools import permutations, product
from random import Random

from levelwalks import functions
from levelwalks.errors import Illegal
from levelwalks.expressions import access, number
from levelwalks.forms import Form
from levelwalks.programs import Add, Block, Loop, Program, Use, check
from levelwalks.shops import Shop
from levelwalks.statements import Statement
from levelwalks.storing import Stored

KINDS = ("dense", "packed", "bits", "hashed")


def shapes(axis_count):
    """All pairs (kinds, axes) of forms with this number of levels."""
    return [
        (kinds, axes)
        for kinds in product(KINDS, repeat=axis_count)
        for axes in permutations(range(axis_count))
    ]


def every_shape():
    return [shape for axis_count in range(4) for shape in shapes(axis_count)]


def text_of(kinds, axes):
    """The text that a form has by the document."""
    return ", ".join(kind + " " + str(axis) for kind, axis in zip(kinds, axes)) or "-"


# Pairs (sizes, cells), all right, with entries in no order and some zeros among them.
TABLES = (
    ((), {}),
    ((), {(): 0}),
    ((), {(): -9}),
    ((1,), {}),
    ((1,), {(0,): 3}),
    ((6,), {}),
    ((6,), {(5,): 1, (0,): -2, (3,): 0, (2,): 7}),
    ((2, 3), {(0, 1): 5, (1, 0): -2, (1, 2): 7}),
    ((3, 4), {}),
    ((3, 4), {(1, 2): 0}),
    ((3, 4), {(2, 3): 4, (0, 3): 2, (0, 0): 1, (1, 1): 0}),
    ((1, 6), {(0, 5): 8, (0, 4): -8}),
    ((6, 6), {(a, b): 6 * a - b for a in range(6) for b in range(6) if (a + b) % 3 == 0}),
    ((2, 3, 4), {}),
    ((2, 3, 4), {(1, 2, 3): 5, (1, 0, 3): 6, (0, 2, 0): -7, (1, 2, 0): 8, (0, 0, 0): 0}),
    ((3, 1, 2), {(2, 0, 1): 1, (0, 0, 1): 2, (0, 0, 0): 3}),
    ((6, 6, 6), {(5, 0, 5): 1, (0, 5, 0): 2, (5, 5, 5): 3, (0, 5, 4): 4, (5, 0, 4): 5}),
)


def has_value_below(path, axes, cells):
    """Whether some cell with a value that is not 0 agrees with a path of coordinates."""
    return any(
        value != 0 and all(at[axis] == c for axis, c in zip(axes, path))
        for at, value in cells.items()
    )


def level_paths(sizes, kinds, axes, cells):
    """The paths of each level from above level 0 on, ascending; the index of a path is its place."""
    found = [[()]]
    for kind, axis in zip(kinds, axes):
        found.append([
            path + (c,)
            for path in found[-1]
            for c in range(sizes[axis])
            if kind == "dense" or has_value_below(path + (c,), axes, cells)
        ])
    return found


def model_level(kind, size, above, paths):
    """One entry of `levels` for the paths of the level above and of this one."""
    if kind == "dense":
        return ("dense", size)
    if kind == "hashed":
        buckets = [[], [], [], [], [], [], [], []]
        for place, path in enumerate(paths):
            q = above.index(path[:-1])
            buckets[(q * 3 + path[-1]) % 8].append((q, path[-1], place))
        return ("hashed", tuple(map(tuple, buckets)))
    starts = tuple(sum(path[:-1] < upper for path in paths) for upper in above) + (len(paths),)
    if kind == "packed":
        return ("packed", starts, tuple(path[-1] for path in paths))
    masks = tuple(sum(2 ** path[-1] for path in paths if path[:-1] == upper) for upper in above)
    return ("bits", starts, masks)


def model_levels(sizes, kinds, axes, cells):
    paths = level_paths(sizes, kinds, axes, cells)
    return tuple(
        model_level(kind, sizes[axis], paths[number], paths[number + 1])
        for number, (kind, axis) in enumerate(zip(kinds, axes))
    )


def value_at_path(path, axes, cells):
    at = tuple(path[axes.index(axis)] for axis in range(len(axes)))
    return cells.get(at, 0)


def model_data(sizes, kinds, axes, cells):
    return tuple(
        value_at_path(path, axes, cells) for path in level_paths(sizes, kinds, axes, cells)[-1]
    )


def is_deep_tuple(worth):
    """Whether a value contains no list at any depth."""
    if isinstance(worth, tuple):
        return all(is_deep_tuple(part) for part in worth)
    return not isinstance(worth, (list, dict))


# Models of expressions: nested tuples of a kind and its parts, where an operand is a model and n an integer.
SIGNS = {
    "plus": "+", "minus": "-", "times": "*", "both": "&", "either": "|", "unlike": "^",
    "quotient": "//", "power": "**", "left": "<<", "right": ">>",
}
TWO_OPERANDS = (
    "plus", "minus", "times", "both", "either", "unlike",
    "greater", "lesser", "below", "at_most", "equal", "unequal",
)
NUMBERED = ("quotient", "remainder", "power", "left", "right")
ONE_OPERAND = ("negative", "inverse", "absolute")
NUMBERS_BEHIND = {
    "quotient": (1, -1, 2, -3, 10 ** 19, -(10 ** 19)),
    "remainder": (1, -1, 2, -3, 10 ** 19, -(10 ** 19)),
    "power": (1, 2, 3, 4),
    "left": (0, 1, 9, 10, 59, 60),
    "right": (0, 1, 9, 10, 59, 60),
}
VALUES = {
    "plus": lambda x, y: x + y, "minus": lambda x, y: x - y, "times": lambda x, y: x * y,
    "both": lambda x, y: x & y, "either": lambda x, y: x | y, "unlike": lambda x, y: x ^ y,
    "greater": max, "lesser": min,
    "below": lambda x, y: int(x < y), "at_most": lambda x, y: int(x <= y),
    "equal": lambda x, y: int(x == y), "unequal": lambda x, y: int(x != y),
    "quotient": lambda x, n: x // n, "remainder": lambda x, n: x % n, "power": lambda x, n: x ** n,
    "left": lambda x, n: x << n, "right": lambda x, n: x >> n,
    "negative": lambda x: -x, "inverse": lambda x: ~x, "absolute": abs,
}


def number_model(n):
    return ("number", n)


def access_model(name, letters=""):
    return ("access", name, tuple(letters))


SMALL_MODELS = (
    number_model(0), number_model(3), number_model(-3), number_model(10 ** 20 - 1), number_model(-(10 ** 20) + 1),
    access_model("s"), access_model("a", "i"), access_model("b", "ki"), access_model("abcdefgh", "zay"),
)


def flat_models():
    """Each kind, with small models of all sorts as operands."""
    found = list(SMALL_MODELS)
    for kind in TWO_OPERANDS:
        found += [(kind, x, y) for x in SMALL_MODELS[1:8] for y in (SMALL_MODELS[2], SMALL_MODELS[6])]
    for kind in NUMBERED:
        found += [(kind, x, n) for x in SMALL_MODELS[1:8] for n in NUMBERS_BEHIND[kind]]
    return found + [(kind, x) for kind in ONE_OPERAND for x in SMALL_MODELS]


def random_model(chance, depth):
    """A model with kinds within one another."""
    if depth == 0 or chance.random() < 0.15:
        return chance.choice(SMALL_MODELS)
    kind = chance.choice(TWO_OPERANDS + NUMBERED + ONE_OPERAND)
    if kind in TWO_OPERANDS:
        return (kind, random_model(chance, depth - 1), random_model(chance, depth - 1))
    if kind in NUMBERED:
        return (kind, random_model(chance, depth - 1), chance.choice(NUMBERS_BEHIND[kind]))
    return (kind, random_model(chance, depth - 1))


def deep_models(many=60, depth=3, seed=7):
    chance = Random(seed)
    return [random_model(chance, depth) for each in range(many)]


def operand_models(model):
    if model[0] in TWO_OPERANDS:
        return model[1:]
    if model[0] in NUMBERED + ONE_OPERAND:
        return model[1:2]
    return ()


def model_accesses(model):
    if model[0] == "access":
        return (model[1:],)
    return tuple(pair for part in operand_models(model) for pair in model_accesses(part))


def model_node_count(model):
    return 1 + sum(model_node_count(part) for part in operand_models(model))


def model_text(model):
    """The text that an expression has by the document."""
    kind = model[0]
    if kind == "number":
        return str(model[1])
    if kind == "access":
        return model[1] + "[" + ", ".join(model[2]) + "]"
    words = [model_text(part) for part in operand_models(model)]
    if kind in NUMBERED:
        words.append(str(model[2]))
    if kind in SIGNS:
        return "(" + words[0] + " " + SIGNS[kind] + " " + words[1] + ")"
    if kind in ("negative", "inverse"):
        return "(" + {"negative": "-", "inverse": "~"}[kind] + words[0] + ")"
    return kind + "(" + ", ".join(words) + ")"


def model_value(model, values):
    """The value by Python's own operators."""
    if model[0] == "number":
        return model[1]
    if model[0] == "access":
        return values[model[1:]]
    worths = [model_value(part, values) for part in operand_models(model)]
    if model[0] in NUMBERED:
        worths.append(model[2])
    return VALUES[model[0]](*worths)


def model_of(expression):
    """The model of an expression, as its kinds and parts tell it."""
    if expression.kind in ("number", "access"):
        return (expression.kind, *expression.parts)
    return (expression.kind, *(part if isinstance(part, int) else model_of(part) for part in expression.parts))


OPERATORS = {
    "plus": lambda x, y: x + y, "minus": lambda x, y: x - y, "times": lambda x, y: x * y,
    "both": lambda x, y: x & y, "either": lambda x, y: x | y, "unlike": lambda x, y: x ^ y,
    "greater": functions.greater, "lesser": functions.lesser, "below": functions.below,
    "at_most": functions.at_most, "equal": functions.equal, "unequal": functions.unequal,
    "quotient": lambda x, n: x // n, "remainder": lambda x, n: x % n, "power": lambda x, n: x ** n,
    "left": lambda x, n: x << n, "right": lambda x, n: x >> n,
    "negative": lambda x: -x, "inverse": lambda x: ~x, "absolute": abs,
}


def built(model):
    """The expression of a model, made by operators and functions."""
    if model[0] == "number":
        return number(model[1])
    if model[0] == "access":
        return access(model[1], *model[2])
    operands = [built(part) for part in operand_models(model)]
    if model[0] in NUMBERED:
        operands.append(model[2])
    return OPERATORS[model[0]](*operands)


def gains():
    """A gain and a loss."""
    gain = loss = access("a", "i")
    gain += access("b")
    loss -= 3
    return (gain, loss)


# A grammar of the texts, for all beginnings at once. A symbol is a sign; a tuple ("any", signs); or a
# tuple for which `replacements` gives the sequences of symbols in its place.
LOWER = "abcdefghijklmnopqrstuvwxyz"
EXPRESSION = ("expression",)
STATEMENT = (("access",), " ", ("assigns",), " ", EXPRESSION)
POSITIVE = (("any", "123456789"), ("digits",))


def words_of(words, behind=()):
    return [(*word, *behind) for word in words]


def integers_behind(kind):
    """The sequences for the integers that may stand behind an operand."""
    if kind == "power":
        return words_of("1234")
    if kind in ("left", "right"):
        return words_of(str(n) for n in range(61))
    return [POSITIVE, ("-", *POSITIVE)]


def expression_replacements():
    found = [("0",), POSITIVE, ("-", *POSITIVE), (("access",),)]
    found += [("(", "-", EXPRESSION, ")"), ("(", "~", EXPRESSION, ")"), ("(", EXPRESSION, " ", ("sign",), ")")]
    found += [(*"absolute(", EXPRESSION, ")"), (*"remainder(", EXPRESSION, *", ", ("behind", "remainder"), ")")]
    return found + [(*kind, "(", EXPRESSION, *", ", EXPRESSION, ")") for kind in TWO_OPERANDS if kind not in SIGNS]


def replacements(symbol):
    if symbol == EXPRESSION:
        return expression_replacements()
    if symbol[0] == "digits":
        return [(), (("any", "0123456789"), symbol)]
    if symbol[0] == "sign":
        found = [(*SIGNS[kind], " ", EXPRESSION) for kind in SIGNS if kind in TWO_OPERANDS]
        return found + [(*SIGNS[kind], " ", ("behind", kind)) for kind in SIGNS if kind in NUMBERED]
    if symbol[0] == "assigns":
        return words_of(("=", "+=", "-="))
    if symbol[0] == "behind":
        return integers_behind(symbol[1])
    if symbol[0] == "access":
        return [(("name", 8), "[", "]"), (("name", 8), "[", ("letters", ""), "]")]
    if symbol[0] == "name":
        longer = [(("any", LOWER), ("name", symbol[1] - 1))] if symbol[1] > 1 else []
        return [(("any", LOWER),)] + longer
    assert symbol[0] == "letters"
    used = symbol[1]
    found = [(letter,) for letter in LOWER if letter not in used]
    if len(used) < 2:
        found += [(letter, ",", " ", ("letters", used + letter)) for letter in LOWER if letter not in used]
    return found


def opened(stack):
    """All sequences that a sequence can stand for, as far as to their first signs."""
    if not stack or isinstance(stack[0], str) or stack[0][0] == "any":
        return [stack]
    return [found for start in replacements(stack[0]) for found in opened((*start, *stack[1:]))]


def first_wrong(text, start):
    """The index at which no text of this grammar goes on, the length if it must go on, or None if it is one."""
    stacks = set(opened(start))
    for at, sign in enumerate(text):
        behind = {stack[1:] for stack in stacks if stack and sign in stack[0][-1]}
        stacks = {found for stack in behind for found in opened(stack)}
        if not stacks:
            return at
    return None if () in stacks else len(text)


def changed_texts(text, signs):
    """A text cut off at each place, and with a sign put in, taken out, changed or exchanged there."""
    for at in range(len(text) + 1):
        yield text[:at]
        for sign in signs:
            yield text[:at] + sign + text[at:]
            yield text[:at] + sign + text[at + 1:]
        yield text[:at] + text[at + 1:]
        yield text[:at] + text[at:at + 1] + text[at:]
        yield text[:at] + text[at + 1:at + 2] + text[at:at + 1] + text[at + 2:]


# Programs: what the document says of them, on objects of the package.
ONE = Add(number(1))
NOTHING = Block(())


def use(name, letters, form="-"):
    return Use(name, tuple(letters), Form.read(form))


def each(letters, inside, leaders=((),)):
    """Loops over these letters, from the outside to the inside, each with one case without needs."""
    for letter in reversed(letters):
        inside = Loop(letter, leaders, (((), inside),))
    return inside


def table(sizes, cells=None, form=None):
    return Stored(sizes, Form(*["dense"] * len(sizes)) if form is None else Form.read(form), cells or {})


def resolved(use_of, bound):
    """The resolved levels of a use, as pairs (kind, letter)."""
    found = []
    for kind, axis in zip(use_of.form.kinds, use_of.form.axes):
        if use_of.letters[axis] not in bound:
            break
        found.append((kind, use_of.letters[axis]))
    return found


def model_fits(use_of, bound):
    levels = resolved(use_of, bound)
    return not any(
        levels[upper][1] in bound[bound.index(levels[lower][1]):]
        for lower in range(len(levels)) for upper in range(lower) if levels[lower][0] == "packed"
    )


def model_leads(use_of, letter, bound):
    many = len(resolved(use_of, bound))
    if not model_fits(use_of, bound) or many == len(use_of.letters):
        return False
    return use_of.form.kinds[many] != "hashed" and use_of.letters[use_of.form.axes[many]] == letter


def program_accesses(program):
    return [program.target.parts, *((each_use.name, each_use.letters) for each_use in program.uses)]


class ModelRun:
    """A run by the document: the bindings of the turns in their order, and the trace."""

    def __init__(self, program, tables):
        self.program, self.tables, self.bindings, self.trace = program, tables, [], []
        self.sizes = {}
        for name, letters in program_accesses(program):
            self.sizes.update(zip(letters, tables[name].sizes))
        self.paths = [self.all_paths(each_use) for each_use in program.uses]
        self.go(program.node, {})
        self.sums = {}
        for point, amount in self.trace:
            spot = dict(zip(program.letters, point))
            at = tuple(spot[letter] for letter in program.target.parts[1])
            self.sums[at] = self.sums.get(at, 0) + amount

    def all_paths(self, each_use):
        stored = self.tables[each_use.name]
        levels = level_paths(stored.sizes, each_use.form.kinds, each_use.form.axes, dict(stored.entries()))
        return {path for level in levels for path in level}

    def path(self, number_of, spot):
        return tuple(spot[letter] for kind, letter in resolved(self.program.uses[number_of], spot))

    def go(self, node, spot):
        if isinstance(node, Add):
            values = {
                (name, letters): self.tables[name][tuple(spot[letter] for letter in letters)]
                for name, letters in node.expression.accesses
            }
            point = tuple(spot[letter] for letter in self.program.letters)
            self.trace.append((point, model_value(model_of(node.expression), values)))
        elif isinstance(node, Block):
            for inside in node.nodes:
                self.go(inside, spot)
        else:
            for c in range(self.sizes[node.letter]):
                if any(all(self.path(n, spot) + (c,) in self.paths[n] for n in group) for group in node.leaders):
                    self.turn(node, {**spot, node.letter: c})

    def turn(self, loop, spot):
        self.bindings.append(tuple(sorted(spot.items())))
        for needs, inside in loop.cases:
            if all(self.path(n, spot) in self.paths[n] for n in needs):
                self.go(inside, spot)
                break

    def turns_at(self, binding):
        return self.bindings.count(binding)

    def additions_at(self, binding):
        point = tuple(c for letter, c in binding)
        whole = tuple(letter for letter, c in binding) == self.program.letters
        return sum(at == point for at, amount in self.trace) if whole else 0

    def sum_at(self, point):
        return sum(amount for at, amount in self.trace if at == point)


def model_amount(statement, tables, point):
    """The amount of a point in a statement."""
    spot = dict(zip(statement.letters, point))
    return model_value(model_of(statement.expression), {
        (name, letters): tables[name][tuple(spot[letter] for letter in letters)]
        for name, letters in statement.expression.accesses
    })


def node_model(node):
    """A node as nested tuples, which are equal if the nodes are alike."""
    if isinstance(node, Add):
        return ("add", model_of(node.expression))
    if isinstance(node, Block):
        return ("block", tuple(map(node_model, node.nodes)))
    return ("loop", node.letter, node.leaders, tuple((needs, node_model(inside)) for needs, inside in node.cases))


def program_model(program):
    uses = tuple((each_use.name, each_use.letters, each_use.form.kinds, each_use.form.axes) for each_use in program.uses)
    return (model_of(program.target), uses, node_model(program.node))


def is_legal(program):
    try:
        check(program)
    except Illegal:
        return False
    return True


class Maker:
    """Makes programs, tables and polynomials that are legal and fit, by chance."""

    RANKS = {"a": 2, "b": 1, "d": 2, "s": 0, "t": 3}

    def __init__(self, seed, letters="ijk", most_uses=3):
        self.chance = Random(seed)
        self.letters = letters
        self.most_uses = most_uses

    def some(self, worths, most=2):
        return sorted(self.chance.sample(worths, min(len(worths), self.chance.randint(0, most))))

    def form(self, rank):
        kinds = [self.chance.choice(KINDS) for level in range(rank)]
        return Form(*kinds, axes=self.chance.sample(range(rank), rank))

    def any_use(self):
        name = self.chance.choice([name for name, rank in self.RANKS.items() if rank <= len(self.letters)])
        return Use(name, self.chance.sample(self.letters, self.RANKS[name]), self.form(self.RANKS[name]))

    def target(self):
        return access("c", *self.letters[:self.chance.randint(0, min(2, len(self.letters)))])

    def polynomial(self, accesses, depth=2):
        """An expression of the kinds of polynomials."""
        kind = self.chance.choice(["number", "access", "access", "plus", "minus", "times", "times", "negative", "power"])
        if depth == 0 and kind not in ("number", "access"):
            kind = "access"
        if kind == "number" or kind == "access" and not accesses:
            return number(self.chance.randint(-2, 3))
        if kind == "access":
            name, letters = self.chance.choice(accesses)
            return access(name, *letters)
        x = self.polynomial(accesses, depth - 1)
        if kind == "negative":
            return -x
        if kind == "power":
            return x ** self.chance.randint(1, 2)
        return OPERATORS[kind](x, self.polynomial(accesses, depth - 1))

    def node(self, uses, letters, bound, depth):
        free = [letter for letter in letters if letter not in bound]
        if depth > 0 and self.chance.random() < 0.15:
            return Block([self.node(uses, letters, bound, depth - 1) for number_of in range(self.chance.randint(0, 2))])
        if free:
            return self.loop(uses, letters, bound, depth)
        fitting = [(each_use.name, each_use.letters) for each_use in uses if model_fits(each_use, bound)]
        return Add(self.polynomial(fitting))

    def loop(self, uses, letters, bound, depth):
        letter = self.chance.choice([letter for letter in letters if letter not in bound])
        inside = bound + [letter]
        leading = [n for n in range(len(uses)) if model_leads(uses[n], letter, bound)]
        fitting = [n for n in range(len(uses)) if model_fits(uses[n], inside)]
        leaders = [self.some(leading) for group in range(self.chance.choice([0, 1, 1, 1, 1, 2, 2, 3]))]
        return Loop(letter, leaders, [
            (self.some(fitting), self.node(uses, letters, inside, depth - 1))
            for case in range(self.chance.choice([0, 1, 1, 2, 2, 3]))
        ])

    def program(self, target=None, uses=None):
        uses = [self.any_use() for number_of in range(self.chance.randint(0, self.most_uses))] if uses is None else uses
        target = self.target() if target is None else target
        letters = sorted({letter for each_use in uses for letter in each_use.letters} | set(target.letters))
        return Program(target, uses, self.node(uses, letters, [], 5))

    def tables(self, accesses, size=None):
        """Tables that fit accesses, all of whose axes have one size."""
        size = self.chance.randint(1, 3) if size is None else size
        found = {}
        for name, letters in accesses:
            shape = (size,) * len(letters)
            places = list(product(range(size), repeat=len(letters)))
            many = self.chance.choice([0, 1, 2, len(places) // 2, len(places)])
            cells = {at: self.chance.choice([-3, -2, -1, 1, 2, 5]) for at in self.chance.sample(places, min(many, len(places)))}
            found[name] = Stored(shape, self.form(len(letters)), cells)
        return found


# Shops.
PRODUCT = Statement(access("c", "i"), access("a", "i", "k") * access("b", "k"))


def new_shop():
    """A shop with some tables."""
    shop = Shop()
    shop.table("a", (3, 3), Form("dense", "packed"), {(0, 1): 5, (1, 0): -2, (1, 2): 7})
    shop.table("b", (3,), Form("packed"), {(1,): 10, (2,): 1})
    shop.table("c", (3,), Form("dense"), {(0,): 1, (1,): 2})
    shop.table("s", (), Form(), {(): 4})
    return shop


def stored_tables(shop):
    return {name: shop[name].stored for name in shop.names}


def forms_of(shop):
    return {name: shop[name].form.text for name in shop.names}


def snapshot(shop):
    """All that can be seen of a shop but its standing programs."""
    tables = {
        name: (shop[name].sizes, shop[name].form.text, shop[name].stored.levels, shop[name].stored.data, shop[name].kept)
        for name in shop.names
    }
    return tables, (shop.spent.turns, shop.spent.additions)
