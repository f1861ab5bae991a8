"""Promise [3]: what the parts of the program promise together."""

import random
import unittest

import helper
from helper import Case, told_by_places
from keptops.counts import check_most, most_events
from keptops.errors import NoExpressionFor
from keptops.evaluation import evaluate
from keptops.keeping import least_program
from keptops.likes import least_like
from keptops.logs import expression_of
from keptops.machines import machine, run_machine
from keptops.needs import most_needed, needed
from keptops.pairs import compare_programs, table_error
from keptops.progtexts import program_text, read_program
from keptops.runs import Run
from keptops.values import Expr


def some_programs(seed, many):
    source = random.Random(seed)
    for _ in range(many):
        parameters = ("p", "q")[:source.choice([0, 1, 1, 2])]
        names = tuple((name, source.choice(["none", "none", "true", "false"])) for name in "ab"[:source.randint(1, 2)])
        made = source.choice([helper.keeping_program, helper.lively_program])
        yield source, made(source, parameters, names, min(2, 3 - len(parameters)))


def run_of(program, history):
    run = Run(program)
    return run, [run(kinds, answers) for kinds, answers in history]


class EventsTest(Case):
    def test_each_list_of_events_is_made_or_refused(self):
        """Without variables a program makes it anyway, and needs no kept name just if an expression makes it."""
        source = random.Random(31)
        told = {True: 0, False: 0}
        for _ in range(200):
            events = [source.choice(helper.next_events(number, variables=())) for number in range(source.randint(1, 5))]
            program, answers = least_program(events)
            run, calls = run_of(program, [((), answers)])
            self.assertEqual([told_by_places(((), ()), call) for call in helper.Played(program, run.history).calls],
                calls)
            self.assertEqual([word for word, _ in calls[0][0]], [word for word, _ in events])
            try:
                expr, kinds, given = expression_of(events, ("none",))
            except NoExpressionFor as error:
                self.assertEqual(program[1] == (), error.index == len(events))
                told[False] += 1
            else:
                self.assertEqual(program[1], ())
                self.assertEqual(Expr(expr)(kinds, given), (events, ("value", ("none",))))
                told[True] += 1
        self.assertGreater(min(told.values()), 20)


class ExpressionsTest(Case):
    def test_alike_just_if_the_forms_are_equal(self):
        """And then they do the same wherever they stand; so do their texts."""
        exprs = [Expr(expr) for expr in helper.some_expressions(32, 60, levels=3, names="ab", places=1)]
        for one, other in zip(exprs, exprs[1:] + [~~exprs[0]]):
            for first, second in [(one, other), (one & one, one), (one | one, one), (one, one.choose(one, one))]:
                self.assertIs(first.alike(second), first.canonical() == second.canonical())
            again = Expr.read(one.text)
            self.assertEqual((again, again.canonical()), (one, one.canonical()))
            kinds = {"a": "f", "b": "t"}
            for answers in one.runs(**kinds):
                self.assertEqual(one(kinds, answers), evaluate(one.data, kinds, answers))


class ProgramsTest(Case):
    def test_the_machine_keeps_just_what_is_needed(self):
        for source, program in some_programs(33, 60):
            made, (number, least) = machine(program), most_needed(program)
            self.assertEqual(len(needed(program, least)), number)
            for _ in range(4):
                history = helper.some_history(source, program, 6)
                _, calls = run_of(program, history)
                self.assertEqual(run_machine(made, history), calls)
                self.assertLessEqual(len(needed(program, history)), number)
            self.assertLessEqual(max(places for places, _ in made[2]), number)

    def test_what_a_program_remembers(self):
        """Behind the least history it has as many needed objects, shown by the same calls."""
        for source, program in some_programs(34, 60):
            history = helper.some_history(source, program, 5)
            short, pairs = least_like(program, history)
            here, there = dict(needed(program, short)), dict(needed(program, history))
            self.assertEqual({other: here[one] for one, other in pairs}, there)
            self.assertLessEqual(len(short), len(history))

    def test_runs_have_the_same_future_just_if_programs_are_alike(self):
        told = {"alike": 0, "unlike": 0}
        programs = [program for _, program in some_programs(35, 120)]
        source = random.Random(36)
        for one, other in [*zip(programs, programs[1:]), *[(program, program) for program in programs[:30]]]:
            if len(one[0]) == len(other[0]):
                word, found = compare_programs(one, other)
                told[word] += 1
                self.assertEqual(Run(one).same_future(Run(other)), found if word == "unlike" else None)
                if word == "alike":
                    self.assertIsNone(table_error(one, other, found))
                    history = helper.some_history(source, one, 4)
                    self.assertIsNone(run_of(one, history)[0].same_future(run_of(other, history)[0]))
        self.assertGreater(min(told.values()), 20)

    def test_programs_as_text_are_the_same_programs(self):
        for _, program in some_programs(37, 60):
            again = read_program(program_text(program))
            self.assertEqual((again, Run(again)), (program, Run(program)))
            for word in "fg":
                self.assertIs(check_most(again, word, most_events(program, word)), True)


if __name__ == "__main__":
    unittest.main()
