"""The texts of programs."""

from levelwalks.basics import whole_in
from levelwalks.errors import BadExpression, BadForm, BadText
from levelwalks.expressions import text_of
from levelwalks.forms import Form
from levelwalks.programs import Add, Block, Loop, Program, Use
from levelwalks.reading import LOWER, Reader, is_name, read_expression

INDENT = "  "


def numbers_text(numbers):
    """Return numbers of uses, separated by one space."""
    return " ".join([str(number) for number in numbers])


def group_text(group):
    """Return the text of a group of leaders."""
    return "all" if len(group) == 0 else numbers_text(group)


def leaders_text(leaders):
    """Return the text of the leaders of a loop."""
    return "none" if len(leaders) == 0 else " or ".join([group_text(group) for group in leaders])


def needs_text(needs):
    """Return the text of the needs of a case."""
    return "always" if len(needs) == 0 else numbers_text(needs)


def use_line(use):
    """Return the line of a use."""
    return "use " + use.name + "[" + ", ".join(use.letters) + "] " + use.form.text


def node_lines(node, indent):
    """Return the lines of a node, each of which begins with the indent."""
    if isinstance(node, Add):
        return [indent + "add " + text_of(node.expression)]
    if isinstance(node, Block):
        inner = [line for each in node.nodes for line in node_lines(each, indent + INDENT)]
        return [indent + "block", *inner]
    lines = [indent + "each " + node.letter + " in " + leaders_text(node.leaders)]
    for needs, inside in node.cases:
        lines.append(indent + "when " + needs_text(needs))
        lines.extend(node_lines(inside, indent + INDENT))
    return lines


def program_text(program):
    """Return the text of a program."""
    uses = [use_line(use) for use in program.uses]
    return "\n".join(["program " + text_of(program.target), *uses, *node_lines(program.node, "")])


def access_in(text):
    """Return the access with this text, or None."""
    reader = Reader(text)
    try:
        name = reader.longest(is_name)
        found = reader.accessed(name)
        reader.check_end()
    except BadExpression:
        return None
    return found


def expression_in(text):
    """Return the expression with this text, or None."""
    try:
        return read_expression(text)
    except BadExpression:
        return None


def use_in(text):
    """Return the use that a text tells, or None."""
    told, cut, form_text = text.partition("] ")
    found = access_in(told + "]")
    if found is None:
        return None
    name, letters = found.parts
    try:
        return Use(name, letters, Form.read(form_text))
    except BadForm:
        return None


def numbers_in(text):
    """Return the numbers of uses that a text tells, or None."""
    numbers = [whole_in(word) for word in text.split(" ")]
    if any([number is None or number < 0 for number in numbers]):
        return None
    return numbers


def group_in(text):
    """Return the group of leaders that a text tells, or None."""
    return [] if text == "all" else numbers_in(text)


def leaders_in(text):
    """Return the leaders that a text tells, or None."""
    if text == "none":
        return []
    groups = [group_in(part) for part in text.split(" or ")]
    return None if any([group is None for group in groups]) else groups


def needs_in(text):
    """Return the needs that a text tells, or None."""
    return [] if text == "always" else numbers_in(text)


class LineReader:
    """Goes through the lines of a text, and raises BadText at the first with which no right text goes on."""

    def __init__(self, text):
        self.lines = text.split("\n")
        self.many = 0

    def is_next(self, start):
        """Tell whether there is a next line, and it begins with these signs."""
        return self.many < len(self.lines) and self.lines[self.many].startswith(start)

    def behind(self, start):
        """Take a line that begins with these signs, and return what is behind them."""
        if not self.is_next(start):
            raise BadText(self.many + 1)
        self.many = self.many + 1
        return self.lines[self.many - 1].removeprefix(start)

    def told(self, found):
        """Return what the line that was taken tells, or raise BadText if this is None."""
        if found is None:
            raise BadText(self.many)
        return found

    def take_uses(self):
        """Take the lines of the uses."""
        found = []
        while self.is_next("use "):
            text = self.behind("use ")
            found.append(self.told(use_in(text)))
        return found

    def take_node(self, indent):
        """Take the lines of a node."""
        if self.is_next(indent + "add "):
            text = self.behind(indent + "add ")
            return Add(self.told(expression_in(text)))
        if self.is_next(indent + "block"):
            return self.take_block(indent)
        return self.take_loop(indent)

    def take_block(self, indent):
        """Take the lines of a block."""
        if self.behind(indent + "block") != "":
            raise BadText(self.many)
        nodes = []
        while self.is_next(indent + INDENT):
            nodes.append(self.take_node(indent + INDENT))
        return Block(nodes)

    def take_loop(self, indent):
        """Take the lines of a loop."""
        letter, between, text = self.behind(indent + "each ").partition(" in ")
        leaders = self.told(leaders_in(text))
        if len(letter) != 1 or letter not in LOWER:
            raise BadText(self.many)
        cases = []
        while self.is_next(indent + "when "):
            needs = self.told(needs_in(self.behind(indent + "when ")))
            cases.append((needs, self.take_node(indent + INDENT)))
        return Loop(letter, leaders, cases)

    def check_end(self):
        """Raise BadText if there is one more line."""
        if self.many < len(self.lines):
            raise BadText(self.many + 1)


def read_program(text):
    """Return the program with this text."""
    reader = LineReader(text)
    target = reader.told(access_in(reader.behind("program ")))
    uses = reader.take_uses()
    node = reader.take_node("")
    reader.check_end()
    return Program(target, uses, node)
