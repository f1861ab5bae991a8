"""Programs as text: writing them line by line, and reading them."""

from keptops.errors import InvalidExpression, InvalidLine, InvalidText
from keptops.exprs import CONSTANTS, is_name, variables_of
from keptops.programs import check_program
from keptops.texts import expression_text, read_expression

INDENT = "  "
# The words ahead of the second block of a row.
MIDDLES = {"if": "else", "try": "except"}


def program_text(program):
    """The text of a program."""
    check_program(program)
    parameters, kept, rows = program
    words = ["program", *parameters]
    if len(kept) > 0:
        words.append("keep")
        for name, constant in kept:
            words.extend([name, constant])
    lines = [" ".join(words), *_block_lines(rows)]
    return "".join([f"{line}\n" for line in lines])


def _block_lines(block):
    """The lines of a block, as if it were the program's."""
    lines = []
    for row in block:
        lines.extend(_row_lines(row))
    return lines


def _row_lines(row):
    """The lines of a row."""
    if row[0] == "set":
        return [f"set {row[1]} {expression_text(row[2])}"]
    if row[0] == "give":
        return [f"give {expression_text(row[1])}"]
    head = "try" if row[0] == "try" else f"if {expression_text(row[1])} then"
    first, second = row[-2:]
    lines = [head, *_indented(_block_lines(first))]
    if row[0] == "try" or len(second) > 0:
        lines.extend([MIDDLES[row[0]], *_indented(_block_lines(second))])
    lines.append("end")
    return lines


def _indented(lines):
    """The lines of a block within a row."""
    return [INDENT + line for line in lines]


def read_program(text):
    """The program that a text tells."""
    if not isinstance(text, str):
        raise InvalidLine(0)
    return program_of(lines_of(text), 0)


def lines_of(text):
    """The list of the lines of a text, each as the list of its words."""
    lines = text.split("\n")
    if lines[-1] == "":
        lines.pop()
    return [[word for word in line.split(" ") if word != ""] for line in lines]


def program_of(lines, begin):
    """The program that lines tell, the first of which has the number `begin` in errors."""
    reader = ProgramReader()
    for number, words in enumerate(lines):
        if len(words) > 0 and not reader.takes(words):
            raise InvalidLine(begin + number)
    if not reader.is_whole():
        raise InvalidLine(begin + len(lines))
    program = (tuple(reader.parameters), tuple(reader.kept), tuple(reader.rows))
    check_program(program)
    return program


class OpenRow:
    """A row whose end is not read yet: the part ahead of its blocks, and the blocks so far."""

    def __init__(self, head):
        self.head = head
        self.blocks = [[]]

    def whole(self):
        """The row; an `if` may lack its second block."""
        first, second = self.blocks if len(self.blocks) == 2 else (self.blocks[0], [])
        return (*self.head, tuple(first), tuple(second))


class ProgramReader:
    """Reads the lines of a program one by one, each as the list of its words.

    Rows that are open stand in a list, and not in calls within one another, as there may be hundreds.
    """

    def __init__(self):
        self.parameters = None
        self.kept = []
        self.rows = []
        self.open_rows = []

    def is_whole(self):
        """Whether the program may end here."""
        return self.parameters is not None and len(self.open_rows) == 0

    def takes(self, words):
        """Read a line, and tell whether it is right."""
        if self.parameters is None:
            return self._takes_program(words)
        word = words[0]
        if word == "set" and len(words) > 2:
            names = [name for name, _ in self.kept]
            return words[1] in names and self._takes_row(("set", words[1]), words[2:])
        if word == "give":
            return self._takes_row(("give",), words[1:])
        if word == "if" and words[-1] == "then":
            expr = self._expression(words[1:-1])
            if expr is not None:
                self.open_rows.append(OpenRow(("if", expr)))
            return expr is not None
        if word == "try" and len(words) == 1:
            self.open_rows.append(OpenRow(("try",)))
            return True
        return len(words) == 1 and len(self.open_rows) > 0 and self._takes_word(word)

    def _takes_program(self, words):
        """Read the program's own line."""
        at = words.index("keep") if "keep" in words else len(words)
        parameters = words[1:at]
        names = words[at + 1::2]
        constants = words[at + 2::2]
        self.parameters = parameters
        self.kept = list(zip(names, constants))
        if words[0] != "program" or len(names) != len(constants) or len(words) == at + 1:
            return False
        both = [*parameters, *names]
        if not all([is_name(name) and name not in both[:number] for number, name in enumerate(both)]):
            return False
        return all([constant in CONSTANTS for constant in constants])

    def _takes_row(self, head, words):
        """Read a row that has no blocks."""
        expr = self._expression(words)
        if expr is not None:
            self._block().append((*head, expr))
        return expr is not None

    def _block(self):
        """The block to which the next row belongs."""
        return self.open_rows[-1].blocks[-1] if len(self.open_rows) > 0 else self.rows

    def _expression(self, words):
        """The expression of words, or None if they tell none, or one with other variables."""
        try:
            expr = read_expression(" ".join(words))
        except (InvalidText, InvalidExpression):
            return None
        names = [*self.parameters, *[name for name, _ in self.kept]]
        return expr if all([name in names for name in variables_of([expr])]) else None

    def _takes_word(self, word):
        """Read a word that the innermost open row may want."""
        row = self.open_rows[-1]
        if word == MIDDLES[row.head[0]] and len(row.blocks) == 1:
            row.blocks.append([])
            return True
        if word != "end" or (row.head[0] == "try" and len(row.blocks) == 1):
            return False
        self.open_rows.pop()
        self._block().append(row.whole())
        return True
