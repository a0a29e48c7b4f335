"""Reading the texts of expressions, sign by sign."""

from levelwalks.errors import BadExpression
from levelwalks.expressions import Expression, FRONT_SIGNS, LIMITS, SIGNS, access, number

LOWER = "abcdefghijklmnopqrstuvwxyz"
DIGITS = "0123456789"
LONGEST_NAME = 8
MOST_LETTERS = 3
NUMBERED_KINDS = ("quotient", "remainder", "power", "left", "right")
CALLED_KINDS = ("greater", "lesser", "below", "at_most", "equal", "unequal", "remainder", "absolute")


def is_name(word):
    """Tell whether a word is a name."""
    return 1 <= len(word) <= LONGEST_NAME and all([sign in LOWER for sign in word])


def is_natural(word):
    """Tell whether a word is an integer that is not negative, as Python writes it."""
    return word == "0" or (word[:1] != "0" and all([sign in DIGITS for sign in word]))


def begins_one(word, words):
    """Tell whether one of the words begins with this one."""
    return any([each.startswith(word) for each in words])


def begins_operand(word):
    """Tell whether a name or a kind that is written in front of its operands begins with a word."""
    return is_name(word) or begins_one(word, CALLED_KINDS)


def kind_of_sign(sign):
    """Return the kind that is written with this sign between its operands."""
    for kind in SIGNS:
        if SIGNS[kind] == sign:
            return kind
    return None


class Reader:
    """Goes through a text, and raises BadExpression at the first sign with which no right text goes on."""

    def __init__(self, source):
        self.source = source
        self.at = 0

    def ahead(self):
        """Return the sign that comes, or the empty string at the end."""
        return self.source[self.at:self.at + 1]

    def is_ahead(self, signs):
        """Tell whether one of the signs comes."""
        return self.at < len(self.source) and self.source[self.at] in signs

    def skip(self, wanted):
        """Go on behind the wanted signs."""
        for sign in wanted:
            if self.ahead() != sign:
                raise BadExpression(self.at)
            self.at = self.at + 1

    def check_end(self):
        if self.at < len(self.source):
            raise BadExpression(self.at)

    def longest(self, is_right):
        """Take signs as long as they are right together."""
        first = self.at
        while self.at < len(self.source) and is_right(self.source[first:self.at + 1]):
            self.at = self.at + 1
        return self.source[first:self.at]

    def one_of(self, words):
        """Take the longest of some words."""
        word = self.longest(lambda start: begins_one(start, words))
        if word not in words:
            raise BadExpression(self.at)
        return word

    def natural(self):
        """Take the digits of an integer that is not negative."""
        digits = self.longest(is_natural)
        if digits == "":
            raise BadExpression(self.at)
        return digits

    def integer(self):
        """Take an integer."""
        if self.ahead() != "-":
            return int(self.natural())
        self.skip("-")
        return -self.natural_from_one()

    def natural_from_one(self):
        """Take a positive integer."""
        if self.ahead() == "0":
            raise BadExpression(self.at)
        return int(self.natural())

    def integer_behind(self, kind):
        """Take an integer that may stand behind the operand of this kind."""
        if kind in LIMITS:
            least, greatest = LIMITS[kind]
            return int(self.one_of([str(n) for n in range(least, greatest + 1)]))
        if self.ahead() == "0":
            raise BadExpression(self.at)
        return self.integer()

    def new_letter(self, earlier):
        """Take a letter that is none of the earlier ones."""
        if not self.is_ahead(LOWER) or self.ahead() in earlier:
            raise BadExpression(self.at)
        letter = self.ahead()
        self.skip(letter)
        return letter

    def bracketed(self):
        """Take the letters of an access, with their brackets."""
        letters = []
        self.skip("[")
        if self.ahead() != "]":
            letters.append(self.new_letter(letters))
        while len(letters) < MOST_LETTERS and self.ahead() == ",":
            self.skip(", ")
            letters.append(self.new_letter(letters))
        self.skip("]")
        return letters

    def accessed(self, name):
        """Take what is behind the name of an access."""
        if not is_name(name):
            raise BadExpression(self.at)
        letters = self.bracketed()
        return access(name, *letters)

    def operand(self):
        """Take an expression."""
        if self.ahead() == "(":
            return self.parenthesis()
        if self.is_ahead(LOWER):
            return self.worded()
        return number(self.integer())

    def worded(self):
        """Take an expression that begins with a word: an access, or a kind in front of its operands."""
        word = self.longest(begins_operand)
        if word in CALLED_KINDS and self.ahead() == "(":
            return self.called(word)
        return self.accessed(word)

    def called(self, kind):
        """Take the operands of a kind that is written in front of them."""
        self.skip("(")
        parts = [self.operand()]
        if kind != "absolute":
            self.skip(", ")
            parts.append(self.second(kind))
        self.skip(")")
        return Expression(kind, parts)

    def second(self, kind):
        """Take what this kind has behind its first operand."""
        if kind in NUMBERED_KINDS:
            return self.integer_behind(kind)
        return self.operand()

    def parenthesis(self):
        """Take an expression in parentheses."""
        self.skip("(")
        if self.ahead() == FRONT_SIGNS["negative"]:
            return self.behind_minus()
        if self.ahead() == FRONT_SIGNS["inverse"]:
            self.skip(FRONT_SIGNS["inverse"])
            x = self.operand()
            self.skip(")")
            return Expression("inverse", (x,))
        return self.behind_first(self.operand())

    def behind_minus(self):
        """Take the rest of a parenthesis that begins with a minus."""
        self.skip("-")
        if not self.is_ahead(DIGITS):
            x = self.operand()
            self.skip(")")
            return Expression("negative", (x,))
        # Only what follows the digits tells whether the minus belongs to them: (-3) or (-3 + x[]).
        digits = self.natural()
        if digits != "0" and self.ahead() == " ":
            return self.behind_first(number(-int(digits)))
        self.skip(")")
        return Expression("negative", (number(int(digits)),))

    def behind_first(self, x):
        """Take the rest of a parenthesis behind its first operand."""
        self.skip(" ")
        sign = self.one_of([SIGNS[kind] for kind in SIGNS])
        kind = kind_of_sign(sign)
        self.skip(" ")
        y = self.second(kind)
        self.skip(")")
        return Expression(kind, (x, y))


def read_expression(text):
    """Return the expression with this text."""
    reader = Reader(text)
    expression = reader.operand()
    reader.check_end()
    return expression
