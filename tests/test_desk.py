"""Promise [34]: a desk, which keeps programs by names."""

import itertools
import random
import unittest

import helper
from helper import A, BARRED, C, Case, NONE, TRUE, call
from keptops.desk import Desk
from keptops.errors import InvalidLine, InvalidName, InvalidProgram, NoProgram, OperandError
from keptops.progtexts import program_text, read_program
from keptops.runs import Run

CACHE = ((), (("c", "none"),), (("if", ("isnone", C), (("set", "c", call("load")),), ()), ("give", C)))
GIVE = (("p",), (), (("give", ("name", "p")),))
EMPTY = ((), (), ())
NO_NAMES = [value for value in helper.no_values() if value != "a"]
NO_NAMES += ["", "A", "a1", "a b", " a", "abcdefghi", *BARRED, ("a",), ["a"], {}, b"a"]


def desk_of(**programs):
    desk = Desk()
    for name, program in programs.items():
        desk[name] = program
    return desk


class DeskCase(Case):
    def check_desk(self, desk, programs):
        """The desk has just these programs, by their names in order."""
        names = list(programs)
        self.assertEqual((len(desk), desk.all_names(), list(desk)), (len(names), names, names))
        for name, program in programs.items():
            self.assertIs(name in desk, True)
            self.assertEqual(desk[name], program)
            self.check_start(desk, name, program)

    def check_start(self, desk, name, program):
        run = desk.start(name)
        self.assertIs(type(run), Run)
        self.assertEqual((run.program, run.history), (program, []))

    def check_refused(self, desk, error, function, *args, **attributes):
        """The function raises the error, and the desk is as it was."""
        before = {name: desk[name] for name in desk}
        self.check_error(error, function, *args, **attributes)
        self.check_desk(desk, before)


class NamesTest(DeskCase):
    def test_a_new_desk(self):
        self.check_desk(Desk(), {})
        one, other = Desk(), Desk()
        one["a"] = GIVE
        self.check_desk(other, {})

    def test_what_stands_by_names(self):
        desk = desk_of(a=CACHE, name=GIVE, abcdefgh=EMPTY)
        self.check_desk(desk, {"a": CACHE, "name": GIVE, "abcdefgh": EMPTY})
        for program in helper.right_programs():
            desk["b"] = program
            self.assertEqual(desk["b"], program)

    def test_the_order_of_the_names(self):
        """That in which they came first, also behind a program in the place of another one."""
        desk = desk_of(c=CACHE, a=GIVE, b=EMPTY)
        desk["a"] = EMPTY
        desk["c"] = GIVE
        desk["d"] = EMPTY
        desk["b"] = CACHE
        self.check_desk(desk, {"c": GIVE, "a": EMPTY, "b": CACHE, "d": EMPTY})

    def test_the_names_are_a_new_list(self):
        desk = desk_of(b=CACHE, a=GIVE)
        desk.all_names().clear()
        self.assertEqual(self.check_call(desk.all_names), ["b", "a"])

    def test_going_through_the_names(self):
        desk = desk_of(b=CACHE, a=GIVE)
        self.assertEqual([(name, desk[name]) for name in desk], [("b", CACHE), ("a", GIVE)])
        self.assertEqual(list(itertools.product(desk, desk)), [("b", "b"), ("b", "a"), ("a", "b"), ("a", "a")])
        for name in desk:
            desk[name] = EMPTY
        self.check_desk(desk, {"b": EMPTY, "a": EMPTY})

    def test_in_with_any_value(self):
        desk = desk_of(a=CACHE, bc=GIVE)
        for value in [*NO_NAMES, "c", "b", "abc", "ab", CACHE, [], {"a": CACHE}, Desk(), Run(CACHE)]:
            self.assertIs(value in desk, False)
            self.assertIs(value not in desk, True)

    def test_names_that_are_none(self):
        """Ahead of programs that are none."""
        for names in ({}, {"a": CACHE}):
            desk = desk_of(**names)
            for name in NO_NAMES:
                self.check_refused(desk, InvalidName, desk.__setitem__, name, GIVE)
                self.check_refused(desk, InvalidName, desk.__setitem__, name, None)

    def test_programs_that_are_none(self):
        desk = desk_of(a=CACHE)
        for wrong in [*helper.bad_programs()[::3], program_text(GIVE), Run(GIVE)]:
            with self.assertRaises(InvalidProgram):
                desk["a"] = wrong
            with self.assertRaises(InvalidProgram):
                desk["b"] = wrong
        self.check_desk(desk, {"a": CACHE})

    def test_no_program(self):
        for desk in [Desk(), desk_of(a=CACHE, bc=GIVE)]:
            for name in [*NO_NAMES, "b", "ab", [], CACHE, slice(None), 0]:
                self.check_refused(desk, NoProgram, desk.__getitem__, name)
                self.check_refused(desk, NoProgram, desk.start, name)


class StartTest(DeskCase):
    def test_new_runs(self):
        desk = desk_of(a=CACHE)
        one, other = desk.start("a"), desk.start(name="a")
        one((), ["t"])
        self.assertEqual([len(one), len(other), len(desk.start("a"))], [1, 0, 0])

    def test_later_changes_of_the_desk(self):
        desk = desk_of(a=CACHE, b=GIVE)
        run = desk.start("a")
        run((), ["f"])
        desk["a"] = GIVE
        desk.load("name a\nprogram\nname b\nprogram")
        self.assertEqual(run.program, CACHE)
        self.assertEqual(run(()), ([], ("value", ("object", (0, ("event", 0))))))
        self.check_desk(desk, {"a": EMPTY, "b": EMPTY})


class LoadTest(DeskCase):
    def check_load(self, desk, text, names, programs):
        self.assertEqual(desk.load(text), names)
        self.check_desk(desk, programs)

    def test_texts(self):
        desk = Desk()
        self.check_load(desk, "name a\nprogram p\ngive p\n", ["a"], {"a": GIVE})
        text = "\n  name  cache  \n" + program_text(CACHE) + "   \nname give\n" + program_text(GIVE)[:-1]
        desk = desk_of(b=EMPTY)
        self.check_load(desk, text.replace("name give", "name gives"), ["cache", "gives"],
            {"b": EMPTY, "cache": CACHE, "gives": GIVE})
        self.check_load(Desk(), "name name\nprogram name\ngive name", ["name"], {"name": (("name",), (),
            (("give", ("name", "name")),))})

    def test_many_texts(self):
        source = random.Random(341)
        for _ in range(60):
            desk, wanted, text, names = desk_of(c=GIVE), {"c": GIVE}, "", []
            for _ in range(source.randint(1, 5)):
                name = source.choice(["a", "b", "c", "abcdefgh", "name"])
                program = helper.some_program(source, ("p",), (("c", "none"),), places=3, rows=6)
                text += " " * source.randint(0, 2) + f"name  {name}\n" + "\n" * source.randint(0, 2)
                text += program_text(program) + "  \n" * source.randint(0, 1)
                wanted[name] = program
                names.append(name)
            self.check_load(desk, text, names, wanted)

    def test_names_that_stand_twice(self):
        """The later program stays, and the name stays where it came first."""
        text = "name b\nprogram\nname a\nprogram\nname b\nprogram p\ngive p\nname a\nprogram\ngive none\nname b\n"
        text += program_text(CACHE)
        gives = ((), (), (("give", NONE),))
        self.check_load(Desk(), text, ["b", "a", "b", "a", "b"], {"b": CACHE, "a": gives})
        self.check_load(desk_of(c=CACHE, a=CACHE), text, ["b", "a", "b", "a", "b"], {"c": CACHE, "a": gives,
            "b": CACHE})

    def test_no_strings(self):
        desk = desk_of(a=CACHE)
        for wrong in [*[value for value in helper.no_values() if not isinstance(value, str)], CACHE,
                ["name a\nprogram"], b""]:
            self.check_refused(desk, InvalidLine, desk.load, wrong, line=0)

    def test_lines_in_no_part(self):
        """They come first, whatever is wrong behind them."""
        desk = desk_of(a=CACHE)
        for ahead, line in [("wrong\n", 0), ("\n  \nprogram\n", 2), ("\nnames a\n", 1), ("Name a\n", 0),
                            ("name\ta\n", 0), ("program\ngive none\n", 0), ("end\n", 0), ("namea\n", 0), ("\n\t\n", 1)]:
            for behind in ["", "name a\nprogram\n", "name A\n", "name a\n", "name a\nprogram\nwrong", "name"]:
                self.check_refused(desk, InvalidLine, desk.load, ahead + behind, line=line)
        for text, line in [("", 0), ("\n", 1), ("   ", 1), ("  \n\n ", 3), ("\n\n\n", 3)]:
            self.check_refused(desk, InvalidLine, desk.load, text, line=line)

    def test_first_lines_that_have_another_form(self):
        desk = desk_of(a=CACHE)
        wrong = ["name", "name a b", "name A", "name a1", "name a,", "name name name", "name abcdefghi", "name a\tb"]
        wrong += [f"name {word}" for word in BARRED]
        for line in wrong:
            for behind in ["", "\n", "\nprogram", "\nprogram\nwrong", "\nprogram p q r", "\nname b\nwrong"]:
                self.check_refused(desk, InvalidLine, desk.load, line + behind, line=0)
                self.check_refused(desk, InvalidLine, desk.load, "\n \n" + line + behind, line=2)
                self.check_refused(desk, InvalidLine, desk.load, "name b\nprogram\ngive none\n\n" + line + behind,
                    line=4)

    def test_first_wrong_lines(self):
        desk = desk_of(a=CACHE)
        ahead = "\nname b\nprogram p\ngive p\n\nname a\n"
        for lines, at in [("wrong", 0), ("give none", 0), ("\nprogram P", 1), ("program\nwrong", 1),
                ("program\n\ngive p", 2),
                          ("program\nif true then\nexcept\nend", 2), ("program p\nset p none\nwrong", 1),
                          ("program keep a none\nset a\nend", 1), ("program\nend", 1), ("program\nprogram\n", 1)]:
            for behind in ["", "\n", "\nname\n", "\nname c\nprogram\nwrong", "\nname c\n"]:
                self.check_refused(desk, InvalidLine, desk.load, ahead + lines + behind, line=6 + at)

    def test_missing_lines(self):
        """The number of the line behind the part, whether there is one or not."""
        desk = desk_of(a=CACHE)
        for ahead in ["", "name b\nprogram\n", "\n\nname b\nprogram\ngive none\n\n"]:
            at = ahead.count("\n")
            for lines in ["name a", "name a\n", "name a\n\n", "name a\nprogram\nif true then",
                          "name a\nprogram\ntry\n\n\n", "name a\nprogram\ntry\nexcept\nif none then\nelse\nend\n"]:
                many = len((lines[:-1] if lines.endswith("\n") else lines).split("\n"))
                self.check_refused(desk, InvalidLine, desk.load, ahead + lines, line=at + many)
                for behind in ["name c\nprogram\n", "name", "name c\nwrong", "name c\nend\n"]:
                    text = ahead + lines + ("" if lines.endswith("\n") else "\n") + behind
                    self.check_refused(desk, InvalidLine, desk.load, text, line=at + many)

    def test_wrong_programs(self):
        """Part by part: ahead of what is wrong in later parts, and behind what is wrong in earlier ones."""
        desk = desk_of(a=CACHE)
        large = ["program p q r\n", "program\n" + "give none\n" * 31, "program\n" + "give f()\n" * 7,
            "program\n" + "try\n" * 300 + "except\nend\n" * 300]
        for text in large:
            with self.assertRaises(InvalidProgram):
                read_program(text)
            for behind in ["", "name", "name A\n", "name b\n", "name b\nwrong\n", "name a\nprogram\n",
                           "name b\n" + text]:
                self.check_refused(desk, InvalidProgram, desk.load, "name a\n" + text + behind)
                self.check_refused(desk, InvalidProgram, desk.load, "name b\nprogram\nname a\n" + text + behind)
            for ahead, line in [("name\nprogram\n", 0), ("name b\n", 1), ("name b\nwrong\n", 1),
                                ("name b\nprogram\ntry\n", 3), ("wrong\n", 0)]:
                self.check_refused(desk, InvalidLine, desk.load, ahead + "name a\n" + text, line=line)
            many = text.count("\n")
            self.check_refused(desk, InvalidLine, desk.load, "name a\n" + text + "wrong", line=many + 1)
            self.check_refused(desk, InvalidLine, desk.load, "name a\n" + text + "try", line=many + 2)

    def test_by_chance(self):
        """Compare with parts that are read one by one."""
        source = random.Random(342)
        lines = ["name a", "name b", "name", "name c", "program", "program", "program p", "give none", "give p"]
        lines += ["try", "except", "end", "", "  ", "program p q r", "wrong", "give f(", " name  d "]
        told = {}
        for _ in range(3000):
            chosen = [source.choice(["name a", "name b", "", "name c"])] * (source.random() < 0.9)
            while source.random() < 0.75:
                named = ["name " + source.choice("abc"), "program"]
                chosen += source.choice([named, [source.choice(lines)], ["program"], ["try", "except", "end"]])
            text = "\n".join(chosen) + "\n" * (chosen != [])
            desk, wanted = desk_of(b=CACHE, a=GIVE), reference(text)
            if isinstance(wanted, list):
                self.assertEqual(desk.load(text), [name for name, _ in wanted], text)
                self.assertEqual({name: desk[name] for name in desk}, {"b": CACHE, "a": GIVE, **dict(wanted)})
                told["right"] = told.get("right", 0) + 1
            else:
                try:
                    self.fail(desk.load(text))
                except OperandError as error:
                    found = ("line", error.line) if type(error) is InvalidLine else ("program",)
                self.assertEqual(found, wanted, text)
                self.check_desk(desk, {"b": CACHE, "a": GIVE})
                told[wanted[0]] = told.get(wanted[0], 0) + 1
        self.assertEqual(sorted(told), ["line", "program", "right"])
        self.assertGreater(min(told.values()), 5)


def reference(text):
    """The names with the programs, or what is wrong."""
    lines = text.split("\n")[:-1] if text.endswith("\n") else text.split("\n") if text else []
    parts = []
    for number, line in enumerate(lines):
        if line.split()[:1] == ["name"]:
            parts.append((number, line.split()[1:], []))
        elif parts:
            parts[-1][2].append(line)
        elif line.strip():
            return ("line", number)
    if not parts:
        return ("line", len(lines))
    found = []
    for number, words, rest in parts:
        if len(words) != 1:
            return ("line", number)
        try:
            found.append((words[0], read_program("".join(line + "\n" for line in rest))))
        except InvalidLine as error:
            return ("line", number + 1 + error.line)
        except InvalidProgram:
            return ("program",)
    return found


if __name__ == "__main__":
    unittest.main()
