"""Promise [31]: programs as text."""

import random
import re
import unittest

import helper
from helper import A, B, BARRED, C, Case, FALSE, NONE, TRUE, call, compare
from keptops.errors import InvalidExpression, InvalidLine, InvalidProgram, InvalidText
from keptops.programs import check_program
from keptops.progtexts import program_text, read_program
from keptops.texts import expression_text, read_expression

F = call("f")
P, Q = ("name", "p"), ("name", "q")
CACHE_TEXT = "program keep c none\nif c is none then\n  set c load()\nend\ngive c\n"
CACHE = ((), (("c", "none"),), (("if", ("isnone", C), (("set", "c", call("load")),), ()), ("give", C)))
HEAD = "program p q keep x none y true\n"
KEPT = (("x", "none"), ("y", "true"))
X = ("name", "x")


def of(*rows):
    return (("p", "q"), KEPT, rows)


def block_text(block, depth=0):
    """The lines of a block, written another way than the program's."""
    text, blanks = "", "  " * depth
    for row in block:
        match row:
            case ("set", x, e):
                text += blanks + " ".join(["set", x, expression_text(e)]) + "\n"
            case ("give", e):
                text += blanks + "give " + expression_text(e) + "\n"
            case ("if", e, yes, no):
                text += blanks + "if " + expression_text(e) + " then\n" + block_text(yes, depth + 1)
                text += blanks + "else\n" + block_text(no, depth + 1) if no else ""
                text += blanks + "end\n"
            case ("try", body, handler):
                text += blanks + "try\n" + block_text(body, depth + 1) + blanks + "except\n"
                text += block_text(handler, depth + 1) + blanks + "end\n"
    return text


def text_of(program):
    parameters, kept, rows = program
    head = "".join(" " + name for name in parameters) + (" keep" if kept else "")
    return "program" + head + "".join(f" {name} {constant}" for name, constant in kept) + "\n" + block_text(rows)


def some_programs(seed, many):
    source = random.Random(seed)
    for _ in range(many):
        parameters = ("p", "q")[:source.randint(0, 2)]
        kept = tuple((name, source.choice(["none", "true", "false"])) for name in "abcd"[:source.randint(0, 4)])
        yield helper.some_program(source, parameters, kept, places=6, rows=source.randint(1, 25), levels=4)


class TextCase(Case):
    def check_wrong(self, line, text):
        self.check_error(InvalidLine, read_program, text, line=line)

    def check_read(self, text, program):
        self.assertEqual(self.check_call(read_program, text), program)


class ProgramTextTest(TextCase):
    def test_the_documents_programs(self):
        self.assertEqual(self.check_call(program_text, CACHE), CACHE_TEXT)
        self.assertEqual(program_text(of()), HEAD)

    def test_the_first_line(self):
        for program, text in [(((), (), ()), "program\n"), ((("p",), (), ()), "program p\n"),
                (((), (("c", "false"),), ()), "program keep c false\n"), ((("q", "p"), (), ()), "program q p\n"),
                ((("p",), (("b", "true"), ("a", "none")), ()), "program p keep b true a none\n")]:
            self.assertEqual(self.check_call(program_text, program), text)

    def test_each_kind_of_row(self):
        for row, lines in [
                (("set", "x", ("or", P, X)), "set x p or x\n"), (("give", NONE), "give none\n"),
                (("give", ("if", P, Q, X)), "give q if p else x\n"),
                (("if", P, (), ()), "if p then\nend\n"), (("if", P, (("give", Q),), ()), "if p then\n  give q\nend\n"),
                (("if", P, (), (("give", Q),)), "if p then\nelse\n  give q\nend\n"),
                (("if", ("isnone", P), (("give", P),), (("set", "y", F), ("give", Q))),
                    "if p is none then\n  give p\nelse\n  set y f()\n  give q\nend\n"),
                (("try", (), ()), "try\nexcept\nend\n"), (("try", (("give", F),), ()),
                    "try\n  give f()\nexcept\nend\n"),
                (("try", (), (("give", F),)), "try\nexcept\n  give f()\nend\n"),
                (("try", (("if", F, (("try", (), (("give", P),)),), ()),), (("give", Q),)),
                    "try\n  if f() then\n    try\n    except\n      give p\n    end\n  end\nexcept\n  give q\nend\n")]:
            self.assertEqual(self.check_call(program_text, of(row)), HEAD + lines)
            self.assertEqual(program_text(of(row, row)), HEAD + lines * 2)

    def test_many_programs(self):
        for program in [*helper.right_programs(), *some_programs(311, 150)]:
            self.assertEqual(program_text(program), text_of(program))

    def test_wrong_programs(self):
        for wrong in helper.bad_programs():
            self.check_error(InvalidProgram, program_text, wrong)


class ReadProgramTest(TextCase):
    def test_what_is_written(self):
        self.check_read(CACHE_TEXT, CACHE)
        for program in [*helper.right_programs(), *some_programs(312, 150)]:
            self.assertEqual(read_program(program_text(program)), program)

    def test_more_blanks_and_empty_lines(self):
        source = random.Random(313)
        for program in [CACHE, *helper.right_programs()[:12], *some_programs(314, 60)]:
            lines = []
            for line in program_text(program).splitlines():
                lines += ["", "  "][:source.randint(0, 2)]
                words = re.split(" +", line.strip())
                lines.append(" " * source.randint(0, 3) + "".join(word + " " * source.randint(1, 3) for word in words))
            lines += ["   "] * source.randint(0, 1)
            for text in ["\n".join(lines) + "\n", "\n".join(lines), "\n".join(lines) + "\n\n"]:
                self.check_read(text, program)
        self.check_read("\n\n  program  \n\n", ((), (), ()))
        self.check_read("program", ((), (), ()))
        self.check_read("program\n give  f( true ,none )", ((), (), (("give", call("f", TRUE, NONE)),)))

    def test_an_expression_is_all_words_up_to_the_last_one(self):
        self.check_read(HEAD + "set   x  p    or   x  ", of(("set", "x", ("or", P, X))))
        self.check_read(HEAD + "if p  if q else x then\nend", of(("if", ("if", Q, P, X), (), ())))
        self.check_read(HEAD + "give p??q", of(("give", ("default", P, Q))))
        self.check_read(HEAD + "give f(p)<q", of(("give", compare(call("f", P), ("<", Q)))))
        self.check_read(HEAD + "if (p) then\nend", of(("if", P, (), ())))
        self.check_read(HEAD + "set x name(p)", of(("set", "x", call("name", P))))

    def test_an_else_without_lines(self):
        wanted = of(("if", P, (("give", Q),), ()), ("give", P))
        for lines in ["if p then\n give q\nelse\nend\ngive p\n", "if p then\n give q\n\nelse\n\nend\ngive p",
                      "if p then\n give q\nend\ngive p"]:
            self.check_read(HEAD + lines, wanted)
        self.check_read(HEAD + "if p then\nelse\nend", of(("if", P, (), ())))
        self.check_read(HEAD + "if p then\nelse\ngive q\nend", of(("if", P, (), (("give", Q),))))

    def test_rows_within_rows(self):
        text = HEAD + "try\nif p then\nelse\ntry\nexcept\ngive p\nend\nset x p\nend\nexcept\nend\ngive x"
        inner = ("if", P, (), (("try", (), (("give", P),)), ("set", "x", P)))
        self.check_read(text, of(("try", (inner,), ()), ("give", X)))


class WrongLineTest(TextCase):
    def test_no_strings(self):
        for wrong in [value for value in helper.no_values() if not isinstance(value, str)]:
            self.check_wrong(0, wrong)
        for wrong in [CACHE, [CACHE_TEXT], (CACHE_TEXT,), 7]:
            self.check_wrong(0, wrong)

    def test_the_programs_line(self):
        wrong = ["programs", "Program", "give none", "keep x none", "p q", "end", "try", "program,", "program\t"]
        wrong += ["p program", "program keep", "program p keep", "program keep x", "program keep x none y"]
        wrong += ["program keep x none y true z"]
        wrong += [f"program {name}" for name in ["P", "p1", "p,", "(p)", "abcdefghi", "p\tq", *BARRED]]
        wrong += [f"program keep {name} none" for name in ["P", "p1", "p,", "abcdefghi", *BARRED]]
        wrong += [f"program p keep x true {name} none" for name in ["P", "keep", "none", "true", "p", "x"]]
        wrong += [f"program keep x {constant}" for constant in ["nil", "None", "t", "x", "keep", "none,", "not"]]
        wrong += [f"program keep x none y {constant}" for constant in ["nil", "True", "y", "0"]]
        wrong += ["program p p", "program p q p", "program keep x none x none", "program x keep x none",
            "program keep keep none", "program p keep x none keep y none", "program keep none x", "program p, q"]
        for line in wrong:
            for behind in ["", "\n", "\ngive none\n", "\nwrong"]:
                self.check_wrong(0, line + behind)
                self.check_wrong(2, "\n  \n" + line + behind)

    def test_later_lines(self):
        wrong = ["gives p", "give", "give()", "Give p", "set", "set x", "set x ", "set p q", "set z p", "set f p"]
        wrong += ["setx p", "set x = p", "if", "if p", "if then", "if p thens", "if p then then", "if p then end"]
        wrong += ["then", "if p then p", "try p", "try try", "trys", "program", "program p q", "keep x none", "p"]
        wrong += ["x p", "give p;", "if pthen", "if (p)then", "set x, p", "set x\tp", "give\tp", "none", "name a"]
        wrong += ["elses", "end end", "end program", "while p then", "p then", "then p then", "else p then", "try then"]
        for line in wrong:
            for ahead in ["", "give p\n", "if p then\n", "try\n", "try\nexcept\n", "if p then\nelse\n"]:
                at = 1 + ahead.count("\n")
                for behind in ["", "\n", "\nend\n", "\nwrong"]:
                    self.check_wrong(at, HEAD + ahead + line + behind)
        self.check_wrong(4, HEAD + "\n\n   \n give \n")

    def test_words_that_no_open_row_wants(self):
        for line in ["else", "except", "end"]:
            for ahead in ["", "give p\n", "if p then\nend\n", "try\nexcept\nend\n"]:
                self.check_wrong(1 + ahead.count("\n"), HEAD + ahead + line + "\n")
        for ahead, wrong in [
                ("if p then\n", ["except"]), ("if p then\nelse\n", ["else", "except"]), ("try\n", ["else", "end"]),
                ("try\nexcept\n", ["else", "except"]), ("if p then\ntry\n", ["end", "else"]),
                ("try\nif p then\n", ["except"]), ("try\nexcept\nif p then\nelse\n", ["else", "except"]),
                ("if p then\ntry\nexcept\n", ["else", "except"]), ("try\nif p then\nend\n", ["else", "end"])]:
            for line in wrong:
                for inner in ["", "give p\n", "if q then\nelse\nend\n"]:
                    self.check_wrong(1 + (ahead + inner).count("\n"), HEAD + ahead + inner + f" {line} \nend\nend")
        for line in ["else p", "except p", "end p", "else else", "end if"]:
            self.check_wrong(2, HEAD + "if p then\n" + line)
            self.check_wrong(3, HEAD + "try\nexcept\n" + line)

    def test_expressions_that_are_refused(self):
        texts = ["p and", "(p", "p q", "f(", "p)", "p < q is none", "P", "p $ q", "not", "abcdefghi", "p = q"]
        texts += ["p\tor q", "not " * 12 + "p", "f(p, p, p, p)", " or ".join(["p"] * 21), "p < " * 5 + "p"]
        texts += ["(" * 31 + "p" + ")" * 31, " and ".join(["f()"] * 7), " or ".join(["not p"] * 51)]
        for text in texts:
            with self.assertRaises((InvalidText, InvalidExpression)):
                read_expression(text)
            for line in [f"set x {text}", f"give {text}", f"if {text} then"]:
                self.check_wrong(1, HEAD + line)
                self.check_wrong(3, HEAD + "give p\n\n" + line + "\nwrong\n")

    def test_variables_that_are_neither(self):
        for text in ["z", "f(z)", "p and z", "f", "x < y < z", "a or b or c or d", "prog"]:
            for line in [f"set x {text}", f"give {text}", f"if {text} then"]:
                self.check_wrong(2, HEAD + "give p\n" + line + "\nend\n")
        self.check_wrong(1, "program\ngive p\n")
        self.check_wrong(1, "program keep x none\ngive p\n")
        self.check_wrong(1, "program p\nset p none\n")
        self.check_read("program p\ngive p\n", (("p",), (), (("give", P),)))

    def test_missing_lines(self):
        for text, line in [("", 0), ("\n", 1), ("   ", 1), ("\n\n  \n", 3), ("\n\n  ", 3)]:
            self.check_wrong(line, text)
        for ahead in ["if p then", "if p then\nelse", "try", "try\nexcept", "try\nexcept\nif p then\nend",
                      "if p then\ntry\nexcept\nend",
                      "give p\ntry\ngive q", "if p then\n\n  ", "if p then\nif q then\nend"]:
            for end in ["", "\n", "\n ", "\n\n\n"]:
                text = HEAD + ahead + end
                self.check_wrong(len((text[:-1] if text.endswith("\n") else text).split("\n")), text)

    def test_numbers_that_are_exceeded(self):
        """InvalidProgram, but only if no line is wrong and none is missing."""
        texts = ["program p q r\n", "program keep a none b none c none d none e none\n", HEAD + "give p\n" * 31,
            HEAD + "give f()\n" * 7, HEAD + "if p then\n" * 6 + "end\n" * 6, HEAD + "try\n" * 6 + "except\nend\n" * 6]
        texts += [HEAD + "give p < p < p < p\n" * 2 + "give f()\n", "program " + " ".join("abcdefghij") + "\n"]
        texts += [HEAD + "if p then\nelse\n" * 7 + "end\n" * 7, "program p keep a none b none c none d none e none\n"]
        for text in texts:
            self.check_error(InvalidProgram, read_program, text)
            self.check_error(InvalidProgram, read_program, text.strip())
            many = text.count("\n")
            self.check_wrong(many, text + "wrong")
            self.check_wrong(many, text + "give z\ngive p\n")
            self.check_wrong(many + 1, text + "try\n")
        for text in [HEAD + "give p\n" * 30, HEAD + "give f()\n" * 6, HEAD + "if p then\n" * 5 + "end\n" * 5]:
            check_program(self.check_call(read_program, text))

    def test_hundreds_of_open_rows(self):
        opened = (10000 - len(HEAD)) // len("try\n")
        self.check_wrong(opened + 1, HEAD + "try\n" * opened)
        self.check_wrong(501, HEAD + "if p then\n" * 500)
        self.check_wrong(501, HEAD + "if p then\n" * 500 + "except\n")
        self.check_error(InvalidProgram, read_program, HEAD + "if p then\n" * 500 + "end\n" * 500)
        self.check_error(InvalidProgram, read_program, HEAD + "if p then\nelse\n" * 400 + "end\n" * 400)
        for many in (300, 600):
            text = HEAD + "try\n" * many + "except\nend\n" * many
            self.check_error(InvalidProgram, read_program, text)
            self.check_wrong(3 * many + 1, text + "end")
            self.check_wrong(3 * many, text[:-4])

    def test_lines_by_chance(self):
        """Compare with a reader of its own, that reads a text as a tree."""
        source = random.Random(315)
        right = ["give p", "set x f()", "if p then", "if x then", "try", "else", "except", "end", "end", "end", ""]
        lines = [*right, "give z", "set p x", "give p and", "if p", "  end  ", "except"]
        told = {"program": 0, "line": 0, "missing": 0}
        for _ in range(4000):
            many = source.randint(0, 9)
            chosen = [source.choice(right if source.random() < 0.97 else lines) for _ in range(many)]
            text = "\n".join([HEAD.strip(), *chosen]) + source.choice(["", "\n"])
            try:
                found = ("program", read_program(text))
            except InvalidLine as error:
                found = ("line", error.line)
            wanted = reference(text)
            self.assertEqual(found, wanted, text)
            count = len((text[:-1] if text.endswith("\n") else text).split("\n"))
            told["missing" if found == ("line", count) else found[0]] += 1
        self.assertGreater(min(told.values()), 100)


class Wrong(Exception):
    """A line is wrong."""


def reference(text):
    lines = text.split("\n")
    if lines[-1] == "":
        lines.pop()
    number = [1]

    def line():
        while number[0] < len(lines) and not lines[number[0]].strip():
            number[0] += 1
        return lines[number[0]].strip() if number[0] < len(lines) else None

    def block(ends):
        """The rows up to a line that is one of these words."""
        rows = []
        while line() not in ends:
            if line() is None:
                raise Wrong
            match line().split():
                case ["give", "p"]:
                    rows.append(("give", P))
                case ["set", "x", "f()"]:
                    rows.append(("set", "x", F))
                case ["if", test, "then"]:
                    number[0] += 1
                    yes, no = block(("else", "end")), ()
                    if line() == "else":
                        number[0] += 1
                        no = block(("end",))
                    rows.append(("if", ("name", test), yes, no))
                case ["try"]:
                    number[0] += 1
                    body = block(("except",))
                    number[0] += 1
                    rows.append(("try", body, block(("end",))))
                case _:
                    raise Wrong
            number[0] += 1
        return tuple(rows)

    try:
        return ("program", of(*block((None,))))
    except Wrong:
        return ("line", number[0])


if __name__ == "__main__":
    unittest.main()
