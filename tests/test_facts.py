"""Promise [26]: whether rows ever run, and what names can hold when they do."""

import random
import unittest

import helper
from helper import A, B, C, Case, D, FALSE, KINDS, NONE, Played, TRUE, call, compare
from keptops.errors import InvalidLook, InvalidName, InvalidNumber, InvalidProgram, TooMany
from keptops.facts import holding_history, row_history, same_history

F, G, H = call("f"), call("g"), call("h")
P, Q = ("name", "p"), ("name", "q")
LOOKS = ("none", "true", "false", "t", "f")


def kept(*names):
    return tuple((name, "none") for name in names)


CACHE = ((), kept("c"), (("if", ("isnone", C), (("set", "c", call("load")),), ()), ("give", C)))


def look_of(played, value):
    return played.kinds[value[1]] if value[0] == "object" else value[0]


def any_values(played, holds):
    return True


def holding(x, look):
    return lambda played, holds: look_of(played, holds[x]) == look


def same(x, y):
    return lambda played, holds: holds[x] == holds[y] and holds[x][0] == "object"


def least_history(program, row, wanted, most):
    """The least history of up to so many calls with what is wanted when the row begins, by playing all; or None."""
    for history in helper.histories([program], most):
        if begins(program, history, row, wanted):
            return history
    return None


def begins(program, history, row, wanted):
    played = Played(program, history)
    last = played.calls[-1]
    return any(number == row and wanted(played, holds) for number, holds in last.begun)


def ever(program, row, wanted):
    """Whether there is such a history at all, by a look at all states that come."""
    for state in helper.states_that_come([program]):
        for _, (played,) in helper.calls_from([program], state):
            if any(number == row and wanted(played, holds) for number, holds in played.calls[-1].begun):
                return True
    return False


class FactsCase(Case):
    def check_history(self, program, row, wanted, found, most=2):
        """Compare with the histories that are played."""
        if found is None:
            self.assertFalse(ever(program, row, wanted))
            return
        if len(found) <= most:
            self.assertEqual(found, least_history(program, row, wanted, len(found)))
        else:
            self.assertIsNone(least_history(program, row, wanted, most))
            self.assertTrue(begins(program, found, row, wanted))
            self.assertTrue(all(call.complete for call in Played(program, found).calls[:-1]))

    def check_all(self, program, most=2):
        names = [*program[0], *[name for name, _ in program[1]]]
        told = []
        for row in range(helper.rows_in(program[2])):
            told.append(row_history(program, row))
            self.check_history(program, row, any_values, told[-1], most)
            for x in names:
                for look in LOOKS:
                    told.append(holding_history(program, row, x, look))
                    self.check_history(program, row, holding(x, look), told[-1], most)
                for y in names:
                    told.append(same_history(program, row, x, y))
                    self.check_history(program, row, same(x, y), told[-1], most)
        return told


class RowTest(FactsCase):
    def test_small_ones(self):
        self.assertEqual(self.check_call(row_history, CACHE, 0), [((), [])])
        self.assertEqual(self.check_call(row_history, CACHE, 1), [((), [])])
        self.assertEqual(self.check_call(row_history, CACHE, 2), [((), ["t"])])

    def test_each_block(self):
        program = (("p",), kept("a"), (
            ("if", P, (("set", "a", TRUE),), (("set", "a", FALSE),)), ("try", (("set", "a", F),), (("give", A),)),
            ("give", A)))
        wanted = [[(("t",), [])], [(("t",), [])], [(("f",), [])], [(("t",), [])], [(("t",), [])], [(("t",), ["x"])],
            [(("t",), ["t"])]]
        for row, history in enumerate(wanted):
            self.assertEqual(self.check_call(row_history, program, row), history)
        self.check_all(program)

    def test_the_last_call_may_be_wanting(self):
        """It has just the answers with which the row begins."""
        program = ((), kept("a"), (("set", "a", F), ("set", "a", G), ("give", H)))
        self.assertEqual([row_history(program, row) for row in range(3)],
            [[((), [])], [((), ["t"])], [((), ["t", "t"])]])
        program = ((), kept("a"), (("if", A, (("give", call("f", G)),), ()), ("set", "a", TRUE)))
        self.assertEqual(row_history(program, 1), [((), []), ((), [])])

    def test_rows_that_never_run(self):
        program = ((), kept("a"), (("give", A), ("set", "a", TRUE), ("try", (), (("give", A),))))
        self.assertEqual([row_history(program, row) for row in range(4)], [[((), [])], None, None, None])
        self.assertIsNone(self.check_call(row_history, program, 3))
        program = (("p",), kept("a"), (("if", A, (("give", P),), ()), ("if", P, (), (("set", "a", ("isnone", NONE)),)),
            ("set", "a", P)))
        self.check_all(program)

    def test_behind_several_calls(self):
        """A counter: the row runs in the fourth call."""
        program = ((), kept("a", "b"), (
            ("if", ("and", A, B), (("give", TRUE),), ()), ("if", B, (("set", "a", TRUE),), ()), ("set", "b", TRUE)))
        self.assertEqual(self.check_call(row_history, program, 1), [((), [])] * 3)
        counter = ((), kept("a", "b", "c"), (
            ("if", C, (("give", TRUE),), ()), ("set", "c", B), ("set", "b", A), ("set", "a", ("default", F, TRUE))))
        self.assertEqual(self.check_call(row_history, counter, 1), [((), ["t"])] * 3 + [((), [])])
        self.check_history(counter, 1, any_values, row_history(counter, 1), 4)

    def test_calls_ahead_are_complete_but_may_fail(self):
        program = ((), kept("a"), (("if", A, (("give", TRUE),), ()), ("set", "a", F), ("set", "a", ("isnone", G))))
        self.assertEqual(row_history(program, 1), [((), ["t", "n"]), ((), [])])
        program = ((), kept("a"), (("if", A, (("give", TRUE),), ()), ("set", "a", TRUE), ("give", F)))
        self.assertEqual(row_history(program, 1), [((), ["t"]), ((), [])])
        program = ((), kept("a", "b"), (("if", A, (("give", B),), ()), ("set", "a", TRUE), ("set", "b", ("not", F)),
            ("set", "a", NONE)))
        self.assertEqual(row_history(program, 1), [((), ["x"]), ((), [])])


class HoldingTest(FactsCase):
    def test_each_look(self):
        wanted = {"none": [((), ["n"])], "true": None, "false": None, "t": [((), ["t"])], "f": [((), ["f"])]}
        for look, history in wanted.items():
            self.assertEqual(self.check_call(holding_history, CACHE, 2, "c", look), history)
        self.assertEqual(holding_history(CACHE, 0, "c", "none"), [((), [])])
        self.assertEqual(holding_history(CACHE, 0, "c", "t"), [((), ["t"]), ((), [])])
        self.assertIsNone(holding_history(CACHE, 1, "c", "t"))
        program = ((), (("a", "none"), ("b", "true"), ("c", "false")), (("give", A),))
        for name, look in [("a", "none"), ("b", "true"), ("c", "false")]:
            self.assertEqual([holding_history(program, 0, name, found) == [((), [])] for found in LOOKS],
                             [found == look for found in LOOKS])

    def test_parameters(self):
        program = (("p", "q"), kept("a"), (("if", ("and", P, Q), (("set", "a", Q),), ()), ("give", A)))
        for kind, look in zip(KINDS, ("t", "f", "none")):
            self.assertEqual(holding_history(program, 0, "p", look), [((kind, "t"), [])])
            self.assertEqual(holding_history(program, 0, "q", look), [(("t", kind), [])])
        self.assertIsNone(holding_history(program, 0, "p", "true"))
        self.assertIsNone(holding_history(program, 1, "q", "f"))
        self.assertEqual(holding_history(program, 0, "a", "t"), [(("t", "t"), []), (("t", "t"), [])])
        self.check_all(program)

    def test_the_moment_when_the_row_begins(self):
        program = ((), kept("a"), (("set", "a", F), ("set", "a", ("not", A)), ("give", A)))
        self.assertEqual(holding_history(program, 0, "a", "true"), [((), ["f"]), ((), [])])
        self.assertEqual(holding_history(program, 1, "a", "f"), [((), ["f"])])
        self.assertEqual(holding_history(program, 2, "a", "false"), [((), ["t"])])
        self.assertIsNone(holding_history(program, 1, "a", "true"))

    def test_kinds_of_kept_objects(self):
        program = (("p",), kept("a"), (("if", ("and", A, ("not", P)), (("give", NONE),), ()), ("set", "a", P)))
        self.assertEqual(holding_history(program, 1, "a", "t"), [(("t",), []), (("f",), [])])
        self.assertEqual(holding_history(program, 1, "p", "none"), [(("t",), []), (("n",), [])])
        self.assertIsNone(holding_history(program, 1, "a", "f"))


class SameTest(FactsCase):
    def test_small_ones(self):
        program = (("p", "q"), kept("a", "b"), (("set", "b", A), ("set", "a", P), ("give", B)))
        self.assertEqual(self.check_call(same_history, program, 2, "a", "p"), [(("t", "t"), [])])
        self.assertIsNone(self.check_call(same_history, program, 2, "a", "b"))
        self.assertIsNone(same_history(program, 2, "p", "q"))
        self.assertEqual(same_history(program, 1, "a", "b"), [(("t", "t"), []), (("t", "t"), [])])
        self.assertIsNone(same_history(program, 1, "b", "p"))

    def test_a_name_and_itself(self):
        """It holds the same object if it holds one."""
        self.assertEqual(same_history(CACHE, 2, "c", "c"), [((), ["t"])])
        self.assertEqual(same_history(CACHE, 0, "c", "c"), [((), ["t"]), ((), [])])
        self.assertIsNone(same_history(CACHE, 1, "c", "c"))
        program = ((), (("a", "true"), ("b", "true")), (("give", A),))
        self.assertIsNone(same_history(program, 0, "a", "a"))
        self.assertIsNone(same_history(program, 0, "a", "b"))

    def test_equal_kinds_are_not_enough(self):
        program = ((), kept("a", "b"), (("set", "a", F), ("set", "b", F), ("give", A)))
        self.assertIsNone(same_history(program, 2, "a", "b"))
        program = ((), kept("a", "b"), (("set", "a", F), ("set", "b", ("default", B, A)), ("give", A)))
        self.assertEqual(same_history(program, 2, "a", "b"), [((), ["t"])])
        self.assertEqual(same_history(program, 2, "b", "a"), [((), ["t"])])
        program = ((), kept("a", "b"), (("if", A, (("give", A),), (("set", "a", F), ("set", "b", ("and", A, A)))),
            ("give", B)))
        self.assertEqual(same_history(program, 0, "a", "b"), [((), ["t"]), ((), [])])
        self.assertEqual(same_history(program, 1, "b", "a"), [((), ["t"]), ((), [])])
        self.assertEqual(same_history(program, 4, "b", "a"), [((), ["t"])])


class AllTest(FactsCase):
    def test_many_programs(self):
        source = random.Random(91)
        lengths = {}
        for _ in range(45):
            parameters = ("p", "q")[:source.choice([0, 0, 1, 2])]
            names = tuple((name, source.choice(["none", "none", "true", "false"]))
                for name in "ab"[:source.randint(1, 2)])
            places = source.randint(0, min(2, 3 - len(parameters)))
            maker = source.choice([helper.some_program, helper.lively_program])
            program = maker(source, parameters, names, places)
            for found in self.check_all(program):
                length = None if found is None else len(found)
                lengths[length] = lengths.get(length, 0) + 1
        self.assertTrue(all(lengths[length] > 20 for length in (None, 1, 2)), lengths)
        self.assertGreater(lengths.get(3, 0), 5)

    def test_three_event_places(self):
        source = random.Random(92)
        for _ in range(10):
            self.check_all(helper.lively_program(source, (), kept("a"), 3), 1)

    def test_new_lists(self):
        found = row_history(CACHE, 2)
        found[0][1].append("x")
        found.append(None)
        self.assertEqual(row_history(CACHE, 2), [((), ["t"])])

    def test_at_the_bounds(self):
        """30 rows with large expressions, four kept names, three event places; many states."""
        def large(name):
            some = helper.joined([("not", ("name", x)) for x in "abcdab"])
            return ("if", some, ("name", name), ("if", ("isnone", some), ("name", name), ("name", name)))

        shift = (("set", "d", C), ("set", "c", B), ("set", "b", A), ("try", (("set", "a", G),), (("set", "a", FALSE),)))
        inner = ("if", F, shift, (("if", H, (("set", "d", A), ("set", "a", TRUE)),
            (("set", "d", A), ("set", "a", B), ("set", "b", D))),))
        turn = (("set", "d", A), ("set", "a", B), ("set", "b", C), ("set", "c", D))
        rows = [("try", (inner,), turn), *[("set", name, large(name)) for name in "abcdabcdab"]]
        never = ("if", ("and", A, ("not", A)), (("give", NONE),), ())
        program = ((), kept(*"abcd"), (*rows, never))
        row = helper.rows_in(program[2]) - 1
        self.assertIsNone(self.check_call(row_history, program, row))
        self.assertEqual(row, 29)
        for look in LOOKS:
            self.check_call(holding_history, program, row - 1, "d", look)
        self.check_call(same_history, program, row - 1, "a", "d")
        self.assertIsNone(self.check_call(same_history, program, row, "a", "d"))
        wide = (("p", "q"), kept(*"abcd"), tuple(("set", name, ("if", ("name", name), P, call("f") if at == 20 else Q))
                                                 for at, name in enumerate("abcd" * 7 + "ab")))
        self.assertEqual(len(wide[2]), 30)
        self.check_call(same_history, wide, 29, "a", "d")
        self.check_call(holding_history, wide, 29, "c", "true")


class ErrorsTest(FactsCase):
    def functions(self):
        return [row_history, lambda program, row: holding_history(program, row, "c", "t"),
                lambda program, row: same_history(program, row, "c", "c")]

    def test_wrong_programs_come_first(self):
        for wrong in helper.bad_programs()[::2]:
            self.check_error(InvalidProgram, row_history, wrong, None)
            self.check_error(InvalidProgram, holding_history, wrong, None, None, None)
            self.check_error(InvalidProgram, same_history, wrong, None, None, None)

    def test_too_many(self):
        def of(parameters, places):
            return (tuple("pq"[:parameters]), kept("c"), tuple(("if", F, (), ()) for _ in range(places))
                or (("give", C),))

        for parameters, places in [(0, 4), (1, 3), (2, 2), (0, 6), (2, 6)]:
            program = of(parameters, places)
            self.check_error(TooMany, row_history, program, None)
            self.check_error(TooMany, holding_history, program, None, None, None)
            self.check_error(TooMany, same_history, program, -1, None, None)
        for parameters, places in [(0, 3), (1, 2), (2, 1), (2, 0)]:
            self.assertEqual(len(self.check_call(row_history, of(parameters, places), 0)), 1)
        links = ((), kept("c"), (("give", compare(C, *[("<", C)] * 4)),))
        self.check_error(TooMany, row_history, links, 0)

    def test_wrong_numbers(self):
        wrong = [*[value for value in helper.no_values() if value not in (0, 1)], False, True, -1, 3, 10 ** 29, "0",
            (0,), [0]]
        for row in wrong:
            self.check_error(InvalidNumber, row_history, CACHE, row)
            self.check_error(InvalidNumber, holding_history, CACHE, row, None, None)
            self.check_error(InvalidNumber, same_history, CACHE, row, None, None)
        for function in self.functions():
            self.check_error(InvalidNumber, function, ((), kept("c"), ()), 0)
            self.assertIsNotNone(function(CACHE, 2))

    def test_wrong_names(self):
        program = (("p",), kept("c"), (("give", C),))
        for x in [*helper.no_values(), "b", "x", "none", "cc", "C", "load", ("c",), ["c"], {"c": 1}]:
            self.check_error(InvalidName, holding_history, program, 0, x, None)
            self.check_error(InvalidName, holding_history, program, 0, x, "t")
            self.check_error(InvalidName, same_history, program, 0, x, "c")
            self.check_error(InvalidName, same_history, program, 0, "p", x)
            self.check_error(InvalidName, same_history, program, 0, x, x)
        self.check_error(InvalidName, holding_history, CACHE, 0, "p", "t")
        for x in ("p", "c"):
            for y in ("p", "c"):
                self.check_call(same_history, program, 0, x, y)

    def test_wrong_looks(self):
        for look in [*helper.no_values(), "n", "x", "T", "None", "object", "tf", ("t",), ["t"], {"t": 1}, LOOKS]:
            if look not in LOOKS:
                self.check_error(InvalidLook, holding_history, CACHE, 0, "c", look)
        for look in LOOKS:
            self.check_call(holding_history, CACHE, 0, "c", look)


if __name__ == "__main__":
    unittest.main()
