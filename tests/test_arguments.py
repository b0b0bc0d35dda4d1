"""Point 2: arguments are neither changed nor kept, results are new, and names may be given.

For Live: test_live; for texts: test_texts.
"""

import unittest
from copy import deepcopy
from random import Random

from pipeform.counting import count_inputs
from pipeform.errors import PipeError
from pipeform.normal import equivalent, is_normal, normal_form
from pipeform.parting import parting_lines
from pipeform.powers import power
from pipeform.running import run, run_on_runs
from tests.model import HUGE, all_pipelines, random_pipeline

LINES = ['b', 'b', 'a', 'c']
RUNS = [('b', 2), ('b', 1), ('a', HUGE)]

CALLS = [
    (run, (LINES,)),
    (run, ([],)),
    (run_on_runs, (RUNS,)),
    (run_on_runs, ([],)),
    (run_on_runs, ([('a', 1), ('b', 0)],)),
    (normal_form, ()),
    (is_normal, ()),
    (equivalent, ([('skip', 1), ('uniq',)],)),
    (equivalent, ([('skip', 1), ('uniq', 1)],)),
    (parting_lines, ([('skip', 1), ('uniq',)],)),
    (parting_lines, ([],)),
    (parting_lines, ([('skip', 1), ('uniq', 1)],)),
    (power, (0,)),
    (power, (1,)),
    (power, (HUGE,)),
    (power, (-1,)),
    (count_inputs, (['b', 'a'], 3, 2)),
    (count_inputs, ([], 0, 1)),
    (count_inputs, (['a'], -1, 0)),
    (count_inputs, (['a'], 1, 0)),
]

PIPELINES = list(all_pipelines([0, 1, 2], 2)) + [[('uniq',), ('tail', -1)], [('skip',)]]


def outcome(function, arguments):
    try:
        return function(*arguments)
    except PipeError as error:
        return type(error), error.value


class Arguments(unittest.TestCase):
    def test_unchanged_after_a_call_that_returns_or_raises(self):
        for function, others in CALLS:
            for pipeline in PIPELINES:
                arguments = (pipeline, *others)
                before = deepcopy(arguments)
                outcome(function, arguments)
                self.assertEqual(arguments, before, function)

    def test_a_changed_result_has_no_effect(self):
        for function, others in CALLS:
            for pipeline in PIPELINES:
                arguments = (pipeline, *others)
                before = deepcopy(arguments)
                result = outcome(function, arguments)
                if isinstance(result, list):
                    expected = deepcopy(result)
                    self.assertIsNot(function(*arguments), result)
                    self.assertTrue(all(result is not argument for argument in arguments))
                    result.append('more')
                    result[0] = 'other'
                    result.reverse()
                    self.assertEqual(arguments, before)
                    self.assertEqual(function(*arguments), expected)

    def test_a_changed_argument_has_no_effect_on_a_result(self):
        for pipeline in PIPELINES[:-2]:
            commands, lines, runs = list(pipeline), list(LINES), list(RUNS)
            results = [
                run(commands, lines), run_on_runs(commands, runs), normal_form(commands), power(commands, 1),
                power(commands, 2), parting_lines(commands, lines[:0]), parting_lines([('head', 0)], commands),
            ]
            expected = deepcopy(results)
            for argument in (commands, lines, runs):
                argument.insert(0, ('head', 0))
                argument.pop()
            self.assertEqual(results, expected)

    def test_the_same_call_again_gives_the_same(self):
        for function, others in CALLS:
            for pipeline in PIPELINES:
                arguments = (pipeline, *others)
                self.assertEqual(outcome(function, arguments), outcome(function, arguments))

    def test_one_list_for_both_arguments(self):
        pipeline = [('uniq',), ('skip', 1)]
        self.assertIs(equivalent(pipeline, pipeline), True)
        self.assertIsNone(parting_lines(pipeline, pipeline))
        self.assertEqual(pipeline, [('uniq',), ('skip', 1)])


class Names(unittest.TestCase):
    def test_calls_by_name(self):
        pipeline = [('uniq',), ('skip', 1)]
        self.assertEqual(run(pipeline=pipeline, lines=LINES), ['a', 'c'])
        self.assertEqual(run(lines=LINES, pipeline=pipeline), ['a', 'c'])
        self.assertEqual(run(pipeline, lines=LINES), ['a', 'c'])
        self.assertEqual(run_on_runs(pipeline=pipeline, runs=RUNS), [('a', 1)])
        self.assertEqual(run_on_runs(runs=RUNS, pipeline=pipeline), [('a', 1)])
        self.assertEqual(normal_form(pipeline=pipeline), pipeline)
        self.assertIs(is_normal(pipeline=pipeline), True)
        self.assertIs(equivalent(first=pipeline, second=[]), False)
        self.assertIs(equivalent(second=pipeline, first=pipeline), True)
        for parted in (
            parting_lines(first=pipeline, second=[]),
            parting_lines(second=[], first=pipeline),
            parting_lines(pipeline, second=[]),
        ):
            self.assertNotEqual(run(pipeline, parted), parted)
        self.assertEqual(power(pipeline=pipeline, times=3), [('uniq',), ('skip', 3)])
        self.assertEqual(power(times=3, pipeline=pipeline), [('uniq',), ('skip', 3)])
        self.assertEqual(power(pipeline, times=3), [('uniq',), ('skip', 3)])


class Kinds(unittest.TestCase):
    def test_pipelines_are_lists_of_tuples(self):
        for pipeline in PIPELINES[:-2]:
            for form in (normal_form(pipeline), power(pipeline, 0), power(pipeline, 1), power(pipeline, HUGE)):
                self.assertIs(type(form), list)
                for command in form:
                    self.assertIs(type(command), tuple)
                    self.assertIs(type(command[0]), str)
                    self.assertTrue(all(type(number) is int for number in command[1:]))

    def test_truth_values(self):
        for pipeline in PIPELINES[:-2]:
            self.assertIn(is_normal(pipeline), (True, False))
            self.assertIs(type(is_normal(pipeline)), bool)
            self.assertIs(type(equivalent(pipeline, [])), bool)


class Bounds(unittest.TestCase):
    def test_returned_pipelines_are_passed_on_with_larger_numbers(self):
        pipeline = [('skip', HUGE), ('uniq',), ('chop', HUGE)]
        for _ in range(10):
            pipeline = normal_form(pipeline + pipeline)
        self.assertEqual(pipeline, [('skip', HUGE), ('uniq',), ('skip', HUGE * 1023), ('chop', HUGE * 1024)])
        self.assertIs(is_normal(pipeline), True)
        self.assertIs(equivalent(pipeline, pipeline[:-1]), False)
        self.assertEqual(run(pipeline, LINES), [])
        self.assertEqual(run_on_runs(pipeline, RUNS), [])
        self.assertEqual(run_on_runs([('head', 10 ** 300)], RUNS), [('b', 3), ('a', HUGE)])

    def test_long_pipelines(self):
        random = Random(11)
        sizes = [(('head', 'tail')[number & 1], number) for number in range(3000, 1000, -1)]
        self.assertEqual(normal_form(sizes), sizes)
        self.assertIs(is_normal(sizes), True)
        self.assertEqual(len(run(sizes, ['a'] * 5000)), 1001)
        self.assertEqual(run_on_runs(sizes, [('a', HUGE)]), [('a', 1001)])
        self.assertEqual(normal_form([('reverse',)] * 5000), [])
        self.assertEqual(normal_form([('uniq',), ('skip', 1)] * 2500), [('uniq',), ('skip', 2500)])
        for _ in range(20):
            pipeline = random_pipeline(random, [HUGE, HUGE - 1], 12) * 50
            form = normal_form(pipeline)
            self.assertEqual(run_on_runs(form, RUNS), run_on_runs(pipeline, RUNS))


if __name__ == '__main__':
    unittest.main()
