"""Expressions as text: writing them with the fewest brackets, and reading them."""

from keptops.errors import InvalidText
from keptops.exprs import CONSTANTS, SIGNS, check_expression, is_name

# How tightly a form holds together; a form may stand without brackets where one as tight is wanted.
TIGHTNESS = {"if": 0, "or": 1, "and": 2, "not": 3, "compare": 4, "isnone": 4, "default": 5}
LOOSEST = 0
TIGHTEST = 6
MOST_TOKENS = 200
MOST_BRACKETS = 30
PAIRED_SIGNS = ("<=", ">=", "==", "!=", "??")
SINGLE_SIGNS = ("<", ">", "(", ")", ",")


def expression_text(expr):
    """The text of the expression with the fewest brackets."""
    check_expression(expr)
    return _text(expr, LOOSEST)


def _text(expr, tightness):
    """The text of an expression where one so tight is wanted."""
    text = _plain_text(expr)
    return text if TIGHTNESS.get(expr[0], TIGHTEST) >= tightness else f"({text})"


def _plain_text(expr):
    """The text without brackets around the whole."""
    word = expr[0]
    if word == "name":
        return expr[1]
    if word in CONSTANTS:
        return word
    if word == "call":
        within = ", ".join([_text(operand, LOOSEST) for operand in expr[2]])
        return f"{expr[1]}({within})"
    tightness = TIGHTNESS[word]
    if word == "if":
        # What is chosen and the condition are to be tighter, what is behind `else` is not.
        return f"{_text(expr[2], tightness + 1)} if {_text(expr[1], tightness + 1)} else {_text(expr[3], tightness)}"
    if word == "not":
        return f"not {_text(expr[1], tightness)}"
    if word == "isnone":
        return f"{_text(expr[1], tightness + 1)} is none"
    if word == "compare":
        links = [f" {sign} {_text(right, tightness + 1)}" for sign, right in expr[2]]
        return _text(expr[1], tightness + 1) + "".join(links)
    sign = "??" if word == "default" else word
    return f"{_text(expr[1], tightness)} {sign} {_text(expr[2], tightness + 1)}"


def read_expression(text):
    """The expression that the text tells."""
    if not isinstance(text, str):
        raise InvalidText(0)
    reader = Reader(_tokens(text))
    expr = reader.conditional()
    if reader.place() < len(text):
        raise InvalidText(reader.place())
    check_expression(expr)
    return expr


def _tokens(text):
    """The tokens, each with its index, up to the first character with which none begins.

    The last item is an empty token, which continues no text: with the length of the text, or
    with the index of that character, or of the first token that is one too many.
    """
    tokens = []
    at = _behind_blanks(text, 0)
    while at < len(text) and len(tokens) < MOST_TOKENS:
        token = _token_at(text, at)
        if token == "":
            break
        tokens.append((token, at))
        at = _behind_blanks(text, at + len(token))
    tokens.append(("", at))
    return tokens


def _behind_blanks(text, at):
    """The first index from this one on where no blank stands."""
    while at < len(text) and text[at] == " ":
        at += 1
    return at


def _token_at(text, at):
    """The token that begins at this index, or the empty text if none does."""
    if text[at:at + 2] in PAIRED_SIGNS:
        return text[at:at + 2]
    if text[at] in SINGLE_SIGNS:
        return text[at]
    end = at
    while end < len(text) and "a" <= text[end] <= "z":
        end += 1
    return text[at:end]


class Reader:
    """Reads the tokens of a text from left to right.

    No method goes behind a token with which the text cannot be continued: where a form could
    end or go on, the token is left to the one who asked for the form.
    """

    def __init__(self, tokens):
        self.tokens = tokens
        self.at = 0
        self.brackets = 0

    def token(self):
        """The token that is read next."""
        return self.tokens[self.at][0]

    def place(self):
        """The index of the token that is read next."""
        return self.tokens[self.at][1]

    def has(self, token):
        """Whether this token comes next; if so, it is read."""
        if self.token() != token:
            return False
        self.at += 1
        return True

    def want(self, token):
        """Read this token, or find the text wrong."""
        if not self.has(token):
            raise InvalidText(self.place())

    def conditional(self):
        """Read `a if c else b`, or what is tighter."""
        chosen = []
        expr = self.disjunction()
        while self.has("if"):
            condition = self.disjunction()
            self.want("else")
            chosen.append((condition, expr))
            expr = self.disjunction()
        for condition, value in reversed(list(chosen)):
            expr = ("if", condition, value, expr)
        return expr

    def disjunction(self):
        """Read operands of `or`."""
        expr = self.conjunction()
        while self.has("or"):
            expr = ("or", expr, self.conjunction())
        return expr

    def conjunction(self):
        """Read operands of `and`."""
        expr = self.negation()
        while self.has("and"):
            expr = ("and", expr, self.negation())
        return expr

    def negation(self):
        """Read `not e`, or what is tighter."""
        many = 0
        while self.has("not"):
            many += 1
        expr = self.comparison()
        for _ in range(many):
            expr = ("not", expr)
        return expr

    def comparison(self):
        """Read a comparison with all its links, a test for none, or what is tighter."""
        first = self.default()
        if self.has("is"):
            self.want("none")
            return ("isnone", first)
        links = []
        while self.token() in SIGNS:
            sign = self.token()
            self.at += 1
            links.append((sign, self.default()))
        return first if len(links) == 0 else ("compare", first, tuple(links))

    def default(self):
        """Read operands of `??`."""
        expr = self.primary()
        while self.has("??"):
            expr = ("default", expr, self.primary())
        return expr

    def primary(self):
        """Read a name, a constant, a call, or an expression in brackets."""
        token = self.token()
        if token == "(":
            self.open_bracket()
            expr = self.conditional()
            self.close_bracket()
            return expr
        if token in CONSTANTS:
            self.at += 1
            return (token,)
        if not is_name(token):
            raise InvalidText(self.place())
        self.at += 1
        return ("call", token, self.call_operands()) if self.token() == "(" else ("name", token)

    def call_operands(self):
        """Read the operands of a call with their brackets."""
        self.open_bracket()
        found = []
        if self.token() != ")":
            found.append(self.conditional())
            while self.has(","):
                found.append(self.conditional())
        self.close_bracket()
        return tuple(found)

    def open_bracket(self):
        """Read an opening bracket, unless too many would be open."""
        if self.brackets == MOST_BRACKETS:
            raise InvalidText(self.place())
        self.want("(")
        self.brackets += 1

    def close_bracket(self):
        """Read the closing bracket."""
        self.want(")")
        self.brackets -= 1
