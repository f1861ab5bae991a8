"""Promise [29]: how often an event can happen in one history."""

import itertools
import random
import unittest

import helper
from helper import A, B, C, Case, D, FALSE, KINDS, NONE, Played, SIGNS, TRUE, call, compare
from keptops.counts import check_most, most_events
from keptops.errors import InvalidAnswers, InvalidProgram, TooMany

F, G = call("f"), call("g")
P, Q = ("name", "p"), ("name", "q")
ALL = ("t", "f", "n", "x")


def kept(*names):
    return tuple((name, "none") for name in names)


CACHE = ((), kept("c"), (("if", ("isnone", C), (("set", "c", call("load")),), ()), ("give", C)))
LEVELS = [(("none",), 1), (((0, "t"),), 0), (((0, "f"),), 0)]
MOST = ("most", 1, [((), ["t"])], LEVELS)
ENDLESS = ("endless", [], [((), ["n"])])


def counting(call, word, answers):
    """How many events of a call that was played count."""
    given = [*call.answers[:len(call.events)], None]
    return sum(found == word and (len(answers) == 4 if answer is None else answer in answers)
               for (found, _), answer in zip(call.events, given))


def counting_all(calls, word, answers):
    return sum(counting(call, word, answers) for call in calls)


def is_call(program, value):
    if not (type(value) is tuple and len(value) == 2 and type(value[0]) is tuple and type(value[1]) is list):
        return False
    return len(value[0]) == len(program[0]) and all(kind in KINDS for kind in value[0]) and all(
        answer in ALL for answer in value[1])


def is_history(program, value):
    return type(value) is list and all(is_call(program, found) for found in value)


def is_state(program, value):
    if type(value) is not tuple or len(value) != len(program[1]):
        return False
    kinds = {}
    for entry in value:
        if type(entry) is tuple and len(entry) == 2 and type(entry[0]) is int and entry[1] in ("t", "f"):
            if entry[0] not in (*kinds, len(kinds)) or kinds.setdefault(*entry) != entry[1]:
                return False
        elif not (type(entry) is str and entry in ("none", "true", "false")):
            return False
    return True


def is_answer(program, word, found, answers=ALL):
    """What check_most is to return."""
    match found:
        case tuple(("most", number, history, levels)):
            return type(number) is int and is_history(program, history) and type(levels) is list and (
                counting_all(Played(program, history).calls, word, answers) == number
                and are_levels(program, word, answers, number, levels))
        case tuple(("endless", history, ring)):
            if not is_history(program, history) or not is_history(program, ring) or not ring:
                return False
            played = Played(program, history + ring)
            return (len(played.calls) == len(history + ring) and all(found.complete for found in played.calls)
                and helper.state_behind(played) == helper.state_behind(Played(program, history))
                and counting_all(played.calls[len(history):], word, answers) > 0)
    return False


def are_levels(program, word, answers, number, levels):
    for level in levels:
        if type(level) is not tuple or len(level) != 2 or not is_state(program, level[0]):
            return False
        if type(level[1]) is not int or level[1] < 0:
            return False
    found = dict(levels)
    if not levels or len(found) != len(levels) or levels[0][0] != tuple(constant for _, constant in program[1]):
        return False
    if levels[0][1] > number:
        return False
    for state, most in levels:
        for _, (played,) in helper.calls_from([program], state):
            many = counting(played.calls[-1], word, answers)
            if many > most:
                return False
            if played.calls[-1].complete and found.get(helper.state_behind(played), most) > most - many:
                return False
            if played.calls[-1].complete and helper.state_behind(played) not in found:
                return False
    return True


class CountsCase(Case):
    def check_counts(self, program, word, answers=ALL):
        """What is returned is a right answer, and is taken for one; no short history tells of more events."""
        found = self.check_call(most_events, program, word, answers)
        self.assertTrue(is_answer(program, word, found, answers))
        self.assertIs(self.check_call(check_most, program, word, found, answers), True)
        if answers == ALL:
            self.assertEqual(most_events(program, word), found)
            self.assertIs(check_most(program, word, found), True)
        return found

    def check_right(self, program, word, found, answers=ALL):
        self.assertTrue(is_answer(program, word, found, answers), found)
        self.assertIs(self.check_call(check_most, program, word, found, answers), True)

    def check_wrong(self, program, word, found, answers=ALL):
        self.assertIs(self.check_call(check_most, program, word, found, answers), False)


class MostEventsTest(CountsCase):
    def test_the_document(self):
        self.assertEqual(most_events(CACHE, "load")[0], "endless")
        self.assertIs(check_most(CACHE, "load", MOST, ("t", "f")), True)
        self.assertEqual(self.check_counts(CACHE, "load", ("t", "f"))[1], 1)

    def test_each_tuple_of_answers(self):
        """What loads again and again is what gives nothing, and what fails."""
        for many in range(5):
            for answers in itertools.permutations(ALL, many):
                found = self.check_counts(CACHE, "load", answers)
                if "n" in answers or "x" in answers:
                    self.assertEqual(found[0], "endless")
                else:
                    self.assertEqual(found[:2], ("most", 1 if answers else 0))

    def test_words(self):
        for word in ["", "loads", "loa", "set", "give", "none", "c", "f", "<", "LOAD", " load", "a" * 2000, "x y"]:
            self.assertEqual(self.check_counts(CACHE, word)[:3], ("most", 0, []))
            self.assertEqual(self.check_counts(CACHE, word, ())[:3], ("most", 0, []))
        for sign in SIGNS:
            program = ((), kept("a"), (("if", A, (), (("set", "a", compare(TRUE, (sign, NONE), ("<", A))),)),))
            self.assertEqual(self.check_counts(program, sign)[0], "endless")
            self.assertEqual(self.check_counts(program, sign, ("x",))[0], "endless")
            once = ((), kept("a"), (("if", A, (("give", TRUE),), ()), ("set", "a", TRUE), ("give", compare(TRUE,
                (sign, NONE), (sign, A)))))
            self.assertEqual(self.check_counts(once, sign)[:2], ("most", 2))
            self.assertEqual(self.check_counts(once, sign, ("f",))[:2], ("most", 1))
            self.assertEqual(self.check_counts(once, "==" if sign == "!=" else "!=")[:2], ("most", 0))

    def test_events_in_one_call(self):
        program = ((), kept("a"), (("if", A, (("give", TRUE),), ()), ("set", "a", TRUE), ("give", call("f", F, F))))
        for answers, number in [(ALL, 3), (("t",), 3), (("x",), 1), (("f", "x"), 3), ((), 0), (("t", "f", "n"), 3)]:
            found = self.check_counts(program, "f", answers)
            self.assertEqual(found[:2], ("most", number))
        deep = ((), kept("a"), (("if", A, (("give", TRUE),), ()), ("try", (("give", F),), (("set", "a", TRUE),
            ("give", call("f", G))))))
        self.assertEqual(self.check_counts(deep, "f", ("x",))[:2], ("most", 2))
        self.assertEqual(self.check_counts(deep, "f", ("t",))[0], "endless")

    def test_over_several_calls(self):
        steps = ((), kept("a", "b", "c"), (("if", C, (("give", C),), ()), ("set", "c", B), ("set", "b", A),
            ("set", "a", TRUE), ("give", F)))
        self.assertEqual(self.check_counts(steps, "f")[:2], ("most", 3))
        self.assertEqual(len(self.check_counts(steps, "f")[2]), 3)
        rises = (("p",), kept("a", "b"), (("if", B, (("give", NONE),), ()), ("if", ("and", A, P), (("set", "b", F),),
            (("set", "a", ("or", A, P)),))))
        self.assertEqual(self.check_counts(rises, "f", ("t",))[:2], ("most", 1))
        self.assertEqual(self.check_counts(rises, "f", ("f", "n"))[0], "endless")
        # Nothing counts on the way that goes around, and then some does once.
        around = (("p",), (("a", "false"),), (("if", ("isnone", A), (("give", TRUE),), ()), ("if", P, (("set", "a",
            ("not", A)), ("give", NONE)), (("set", "a", NONE), ("give", call("f", F))))))
        self.assertEqual(self.check_counts(around, "f")[:2], ("most", 2))

    def test_events_without_an_answer(self):
        """They count just if all four answers are named."""
        once = ((), kept("a"), (("if", A, (("give", TRUE),), ()), ("set", "a", TRUE), ("set", "a", ("and", F, A)),
            ("give", G)))
        self.assertEqual(self.check_counts(once, "f")[0], "endless")
        last = ((), kept("a"), (("if", A, (("give", F),), ()), ("set", "a", TRUE)))
        self.assertEqual(self.check_counts(last, "f")[0], "endless")
        # What the answer of f leads to is seen only in a call that is not wanting.
        turn = ((), (("a", "true"),), (("set", "a", ("and", A, F)), ("give", NONE)))
        self.assertEqual(self.check_counts(turn, "f")[0], "endless")
        ends = ((), (("a", "true"),), (("if", A, (("set", "a", NONE), ("give", F)), ()),))
        found = self.check_counts(ends, "f")
        self.assertEqual(found[:2], ("most", 1))
        for answers in ([], ["t"], ["f"], ["n"], ["x"], ["t", "x"]):
            self.check_right(ends, "f", ("most", 1, [((), answers)], found[3]))
        for answers in itertools.permutations("tfnx", 3):
            levels = self.check_counts(ends, "f", answers)[3]
            self.check_wrong(ends, "f", ("most", 1, [((), [])], levels), answers)
            self.check_right(ends, "f", ("most", 1, [((), [answers[1]])], levels), answers)

    def test_calls_that_are_not_complete(self):
        """They add their events, and further calls follow if they are not wanting."""
        ends = ((), (("a", "true"),), (("if", A, (("set", "a", NONE), ("give", F)), ()), ("give", ("and", A, G))))
        levels = self.check_counts(ends, "f")[3]
        self.check_right(ends, "f", ("most", 1, [((), ["t", "t", "x"]), ((), ["f"])], levels))
        self.check_right(ends, "f", ("most", 1, [((), []), ((), ["f"]), ((), ["f"])], levels))
        self.check_wrong(ends, "f", ("most", 1, [((), [])], levels), ("t",))

    def test_no_history_is_needed_for_none(self):
        for program in [((), (), ()), CACHE, (("p", "q"), kept("a", "b"), (("give", F),))]:
            for word, answers in [("h", ALL), ("f", ()), ("load", ())]:
                self.assertEqual(self.check_counts(program, word, answers)[:3], ("most", 0, []))

    def test_many_programs(self):
        source = random.Random(291)
        told = {"endless": 0, 0: 0, 1: 0, 2: 0}
        for _ in range(120):
            parameters = ("p",)[:source.choice([0, 0, 1])]
            names = tuple((name, source.choice(["none", "none", "true", "false"]))
                          for name in "abc"[:source.randint(1, 3)])
            places = 3 - len(parameters) if source.random() < 0.4 else 2 - len(parameters)
            made = source.choice([helper.lively_program, helper.keeping_program, climbing_program, climbing_program])
            program = made(source, parameters, names, places)
            program = program if made is climbing_program else once(source, program)
            answers = tuple(source.sample(ALL, source.choice([4, 4, 3, 2, 1, 1])))
            if made is climbing_program and source.random() < 0.7:
                answers = ("t",)
            for word in ("f", "g", "h"):
                found = self.check_counts(program, word, answers)
                told[found[0] if found[0] == "endless" else min(found[1], 2)] += 1
                if found[0] == "most":
                    most = max(counting_all(Played(program, history).calls, word, answers)
                               for history in helper.histories([program], 1))
                    self.assertLessEqual(most, found[1])
        self.assertGreater(min(told.values()), 0, told)

    def test_programs_that_climb(self):
        """Each event stops when its own name is true."""
        source = random.Random(293)
        told = [0] * 4
        for _ in range(60):
            names = kept(*"abc"[:source.randint(1, 3)])
            rows = [row for row in climbing_program(source, (), names, 3)[2] if row[0] != "set"]
            found = self.check_counts(((), names, tuple(rows)), "f", ("t",))
            if found[0] == "most":
                told[found[1]] += 1
        self.assertGreater(min(told[1:3]), 4)
        self.assertGreater(told[3], 0)

    def test_at_the_bounds(self):
        for program in helper.large_programs():
            for word, answers in [("f", ALL), ("g", ("t",)), ("h", ("x",)), ("none", ALL)]:
                found = self.check_call(most_events, program, word, answers)
                self.assertIs(self.check_call(check_most, program, word, found, answers), True)
        # Each of four names is set once, by one of three events.
        rows = tuple(("if", ("isnone", name), (("set", name[1], ("isnone", call(word, *(A, B, D)[:at]))),), ())
                     for at, (name, word) in enumerate(zip((A, B, C), "fff")))
        program = ((), kept(*"abcd"), (*rows, ("set", "d", ("default", D, A))))
        found = self.check_counts(program, "f", ("t", "f", "n"))
        self.assertEqual(found[:2], ("most", 3))
        shifts = (("set", "d", C), ("set", "c", B), ("set", "b", A), ("set", "a", F))
        ask = ("if", ("and", A, ("and", B, ("and", C, D))), (("give", NONE),), ())
        self.assertEqual(self.check_call(most_events, ((), kept(*"abcd"), (ask, *shifts)), "f", ("n",))[0], "endless")
        self.assertEqual(self.check_call(most_events, ((), kept(*"abcd"), (ask, *shifts)), "f", ("x",))[0], "endless")


def once(source, program):
    """The program, perhaps with a test that ends its calls as soon as a name holds something."""
    if source.random() < 0.4:
        return program
    name = ("name", source.choice(program[1])[0])
    test = source.choice([name, ("isnone", name), ("not", ("isnone", name))])
    return (*program[:2], (("if", test, (("give", name),), ()), *program[2]))


def climbing_program(source, parameters, kept, places):
    """A program with events that happen only until their names hold something, or something true."""
    rows = []
    for at in range(places):
        x = ("name", kept[at % len(kept)][0])
        operands = source.sample([x, NONE, *[("name", name) for name in parameters]], source.randint(0, 1))
        row = ("set", x[1], source.choice([call(source.choice("ffg"), *operands), compare(x, ("<", NONE))]))
        test = source.choice([x, x, ("not", ("isnone", x))])
        guarded = source.choice([("if", test, (), (row,)), ("if", ("not", test), (row, ("give", x)), ())])
        rows.append(source.choice([guarded, guarded, ("try", (guarded,), ())]))
    for _ in range(source.randint(0, 2)):
        x, y = source.choice(kept)[0], source.choice([*kept, *zip(parameters)])[0]
        rows.append(("set", x, source.choice([("or", ("name", x), ("name", y)), ("and", ("name", y), ("name", x))])))
    source.shuffle(rows)
    return (tuple(parameters), tuple(kept), tuple(rows))


class CheckMostTest(CountsCase):
    def test_other_right_answers(self):
        right = [MOST, ("most", 1, [((), ["f", "n"])], LEVELS)]
        right += [("most", 1, [((), ["x"]), ((), ["n"]), ((), ["t"])], LEVELS)]
        right += [("most", 1, [((), ["t"]), ((), []), ((), ["f"])], [LEVELS[0], LEVELS[2], LEVELS[1]])]
        right += [("most", 1, [((), ["t"]), ((), ["t"]), ((), [])], [*LEVELS, (("true",), 0), (("false",), 7)])]
        right += [("most", 1, [((), ["f"])] * 30, [*LEVELS, (("true",), 10 ** 29)])]
        for found in right:
            self.check_right(CACHE, "load", found, ("t", "f"))
        nothing = [("most", 0, [], [(("none",), 0), (((0, "t"),), 0), (((0, "f"),), 0)])]
        nothing += [("most", 0, [((), [])], [(("none",), 0), (((0, "t"),), 0), (((0, "f"),), 0)])]
        for found in nothing:
            self.check_right(CACHE, "loads", found)
            self.check_right(CACHE, "load", found, ())
        right = [ENDLESS, ("endless", [], [((), ["x"])]), ("endless", [((), ["x"])], [((), ["n"]), ((), ["x"])])]
        right += [("endless", [((), ["n"])] * 20, [((), ["n"])] * 20)]
        for found in right:
            self.check_right(CACHE, "load", found)

    def test_levels_that_could_be_less(self):
        steps = ((), kept("a", "b"), (("if", B, (("give", B),), ()), ("set", "b", A), ("set", "a", TRUE), ("give", F)))
        word, number, history, levels = self.check_counts(steps, "f")
        self.assertEqual((number, dict(levels)), (2, {("none", "none"): 2, ("true", "none"): 1, ("true", "true"): 0}))
        for second in range(3):
            for last in range(3):
                found = ("most", 2, history, [(levels[0][0], 2), (("true", "none"), second), (("true", "true"), last)])
                self.assertIs(check_most(steps, "f", found), is_answer(steps, "f", found))
                self.assertIs(check_most(steps, "f", found), (second, last) == (1, 0))
        free = ((), kept("a"), (("if", A, (("give", A),), ()), ("if", F, (("set", "a", TRUE),), ()), ("give", G)))
        for number in range(4):
            found = ("most", 1, [((), ["t", "n"])], [(("none",), 1), (("true",), number)])
            self.assertIs(check_most(free, "f", found, ("t",)), is_answer(free, "f", found, ("t",)))

    def test_levels_that_could_be_greater(self):
        """Behind a call in which nothing counts, more might still happen, as far as the levels tell."""
        rows = (("if", ("isnone", A), (("if", P, (("set", "a", TRUE), ("give", NONE)), (("set", "a", FALSE),)),
            ("give", call("f", F))), ()),)
        program = (("p",), kept("a"), rows)
        word, number, history, levels = self.check_counts(program, "f", ("t", "f", "n"))
        self.assertEqual((number, sorted(levels)), (2, [(("false",), 0), (("none",), 2), (("true",), 0)]))
        for true in range(4):
            for false in range(3):
                found = ("most", 2, history, [(("none",), 2), (("true",), true), (("false",), false)])
                answers = ("n", "t", "f")
                self.assertIs(check_most(program, "f", found, answers), is_answer(program, "f", found, answers))
                self.assertIs(check_most(program, "f", found, answers), true < 3 and false == 0)

    def test_wrong_parts(self):
        """Each thing that can be wrong in each part."""
        states, numbers = [level[0] for level in LEVELS], [True, False, None, "1", (1,), [1], {}, 10 ** 29, -1, 0, 2]
        wrong = [("most", number, *MOST[2:]) for number in numbers]
        histories = [None, (), (((), ["t"]),), "t", {}, 0, [None], [[]], [((), ("t",))], [((), ["q"])]]
        histories += [[(("t",), ["t"])], [((), ["t"], 1)], [[(), ["t"]]], [], [((), [])], [((), ["n"])]]
        histories += [[((), ["x"])], [((), []), ((), ["t"])]]
        wrong += [("most", 1, history, LEVELS) for history in histories]
        wrong += [("most", 1, MOST[2], levels) for levels in [None, (), tuple(LEVELS), dict(LEVELS), [], 0, "", {}]]
        for at in range(3):
            for number in [True, False, None, "0", (0,), [0], {}, -1]:
                wrong += [("most", 1, MOST[2], with_level(at, (states[at], number)))]
            for state in [None, "none", (), ["none"], ("none", "none"), ("nil",), ((0, "n"),), ((1, "t"),),
                          ((0, "x"),), ((True, "t"),), ((False, "t"),), (("0", "t"),), ([0, "t"],), ((0, "t", 0),),
                          (None,), {}, 0]:
                wrong += [("most", 1, MOST[2], with_level(at, (state, LEVELS[at][1])))]
                wrong += [("most", 1, MOST[2], [*LEVELS, (state, 0)])]
            for level in [None, (), 0, [states[at], LEVELS[at][1]], (states[at],), (states[at], LEVELS[at][1], 0),
                          states[at]]:
                wrong += [("most", 1, MOST[2], with_level(at, level)), ("most", 1, MOST[2], [*LEVELS, level])]
            wrong += [("most", 1, MOST[2], [*LEVELS, LEVELS[at]]), ("most", 1, MOST[2], [*LEVELS, (states[at], 5)])]
            wrong += [("most", 1, MOST[2], LEVELS[:at] + LEVELS[at + 1:])]
        wrong += [("most", 1, MOST[2], [LEVELS[1], LEVELS[0], LEVELS[2]]), ("most", 1, MOST[2], LEVELS[::-1])]
        wrong += [("most", 1, MOST[2], with_level(0, (states[0], number))) for number in (0, 2, 10 ** 29)]
        wrong += [("most", 1, MOST[2], with_level(at, (states[at], number))) for at in (1, 2) for number in (1, 2)]
        for found in wrong:
            self.assertFalse(is_answer(CACHE, "load", found, ("t", "f")), found)
            self.check_wrong(CACHE, "load", found, ("t", "f"))

    def test_wrong_rings(self):
        rings = [None, (), [], {}, 0, "n", (((), ["n"]),), [None], [((), ("n",))], [((), ["q"])], [(("t",), ["n"])],
            [((), [])], [((), ["t"])], [((), ["f"])], [((), ["n", "n"])], [((), ["n"]), ((), [])],
            [((), ["n"]), ((), ["t"])], [((), []), ((), ["n"])], [((), ["x", "x"])], [((), ["x"]), ((), ["x", "n"])]]
        histories = [None, (), {}, 0, "n", [None], [((), ("n",))], [((), [])], [((), ["n", "n"])], [((), ["t"])],
            [((), ["n"]), ((), ["f"])], [((), ["q"])], [((), ["x"]), ((), [])], [((), []), ((), ["n"])]]
        wrong = [("endless", [], ring) for ring in rings] + [("endless", history, ENDLESS[2]) for history in histories]
        # Nothing that counts is in the ring.
        wrong += [("endless", [((), ["t"])], [((), [])]), ("endless", [((), ["n"]), ((), ["f"])], [((), [])] * 5)]
        wrong += [("endless", [((), ["n"])] * 3 + [((), ["t"])], [((), [])])]
        for found in wrong:
            self.assertFalse(is_answer(CACHE, "load", found), found)
            self.check_wrong(CACHE, "load", found)
        self.check_wrong(CACHE, "load", ENDLESS, ("t", "f", "x"))
        self.check_wrong(CACHE, "loads", ENDLESS)
        self.check_right(CACHE, "load", ENDLESS, ("n",))

    def test_the_state_behind_a_ring(self):
        """Which names hold the same object counts, and the kinds; which objects these are does not."""
        program = (("p",), kept("a", "b"), (("set", "b", A), ("set", "a", P), ("give", F)))
        ring = [(("t",), ["t"])]
        self.check_right(program, "f", ("endless", ring * 2, ring))
        for history, ring in [([], ring), (ring, ring), (ring * 2, [(("f",), ["t"])]),
                              (ring * 2, [(("n",), ["t"])] * 2)]:
            self.check_wrong(program, "f", ("endless", history, ring))
        both = (("p",), kept("a", "b"), (("set", "b", ("if", P, A, P)), ("set", "a", P), ("give", F)))
        self.check_right(both, "f", ("endless", [(("f",), ["t"])], [(("f",), ["x"])]))
        self.check_wrong(both, "f", ("endless", [(("t",), ["t"])] * 2, [(("f",), ["t"]), (("t",), ["t"])]))
        self.check_right(both, "f", ("endless", [(("t",), ["t"])] * 2, [(("f",), ["t"]), *[(("t",), ["t"])] * 2]))

    def test_values_of_any_kind(self):
        wrong = [*helper.no_values(), (), ("most",), ("endless",), MOST[:3], (*MOST, []), ENDLESS[:2], (*ENDLESS, [])]
        wrong += [list(MOST), list(ENDLESS), ("Most", *MOST[1:]), ("", *MOST[1:]), (None, *MOST[1:])]
        wrong += [MOST[1:], ENDLESS[1:], ("endless", *MOST[1:]), ("most", *ENDLESS[1:]), (["most"], *MOST[1:])]
        wrong += [("more", *ENDLESS[1:]), {"most": 1}]
        for found in wrong:
            for answers in [("t", "f"), ALL]:
                self.check_wrong(CACHE, "load", found, answers)

    def test_long_histories(self):
        self.check_right(CACHE, "load", ("most", 1, [((), ["x"])] * 2000 + [((), ["t"] * 500)], LEVELS), ("t", "f"))
        self.check_right(CACHE, "load", ("endless", [((), ["x"])] * 2000, [((), ["n"])] * 2000))
        program = helper.large_programs()[0]
        history = [((), ["t"] * 3)] * 3000
        self.assertIs(self.check_call(check_most, program, "h", ("most", 0, history, [])), False)

    def test_what_is_found_with_a_change(self):
        """Levels one more or one less, and states left out: right just where a check by playing says so."""
        source = random.Random(292)
        told = {True: 0, False: 0}
        for _ in range(60):
            parameters = ("p",)[:source.randint(0, 1)]
            made = source.choice([helper.keeping_program, climbing_program])
            program = once(source, made(source, parameters, kept("a", "b")[:source.randint(1, 2)], 1))
            answers = tuple(source.sample(ALL, source.choice([4, 2, 1])))
            found = most_events(program, "f", answers)
            for _ in range(6):
                changed = some_change(source, program, found)
                told[is_answer(program, "f", changed, answers)] += 1
                self.assertIs(check_most(program, "f", changed, answers), is_answer(program, "f", changed, answers))
        self.assertGreater(min(told.values()), 30)


def some_change(source, program, found):
    if found[0] == "endless":
        return (found[0], found[1] + helper.some_history(source, program, source.randint(0, 1)),
            found[2] * source.randint(1, 2) + helper.some_history(source, program, source.randint(0, 1)))
    word, number, history, levels = found
    at = source.randrange(len(levels))
    state, most = levels[at]
    return source.choice([
        (word, number, history, [*levels[:at], (state, most + 1), *levels[at + 1:]]),
        (word, number, history, [*levels[:at], (state, most - 1), *levels[at + 1:]]),
        (word, number, history, [*levels[:at], *levels[at + 1:]]), (word, number, history, [*levels, levels[at]]),
        (word, number + 1, history, levels), (word, number, history[1:], levels),
        (word, number, history + helper.some_history(source, program, 1), levels),
        (word, number, history, [levels[0], *source.sample(levels[1:], len(levels) - 1)]),
        (word, number, history, [(one, many + 1) for one, many in levels]),
    ])


def with_level(at, level):
    return [*LEVELS[:at], level, *LEVELS[at + 1:]]


class ErrorsTest(CountsCase):
    def test_wrong_programs_come_first(self):
        for wrong in helper.bad_programs()[::3]:
            self.check_error(InvalidProgram, most_events, wrong, "f", None)
            self.check_error(InvalidProgram, check_most, wrong, "f", None, None)
            self.check_error(InvalidProgram, most_events, wrong, "f")
            self.check_error(InvalidProgram, check_most, wrong, "f", None)

    def test_wrong_answers_come_ahead_of_too_many(self):
        beyond, _ = helper.too_many_places()
        wrong = [*helper.no_values(), [], {}, ["t"], ["t", "f", "n", "x"], ("t", "t"), ("t", "f", "t")]
        wrong += [("x", "n", "f", "x"), ("t", "f", "n", "x", "t"), ("q",), ("T",), ("tf",), ("",), (None,), (True,)]
        wrong += [(("t",),), (["t"],), ({},)]
        wrong += [("t", 0), "tfnx", "t", {"t": 1}, ("none",), ("t", "f", "n", "x", "x")]
        for answers in wrong:
            for program in [CACHE, beyond[0]]:
                self.check_error(InvalidAnswers, most_events, program, "f", answers)
                self.check_error(InvalidAnswers, check_most, program, "f", MOST, answers)

    def test_too_many(self):
        beyond, within = helper.too_many_places()
        for program in beyond:
            self.check_error(TooMany, most_events, program, "f")
            self.check_error(TooMany, most_events, program, "f", ())
            self.check_error(TooMany, check_most, program, "f", MOST)
            self.check_error(TooMany, check_most, program, "f", None, ("t",))
        for program in within:
            self.check_counts(program, "f")


if __name__ == "__main__":
    unittest.main()
