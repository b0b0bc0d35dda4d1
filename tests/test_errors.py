"""Point 3, the Pipeline check of point 6, and the order of the errors."""

import unittest

from pipeform import errors
from pipeform.counting import count_inputs
from pipeform.errors import InvalidCommand, InvalidIndex, InvalidNumber, InvalidRun, PipeError, Unreadable
from pipeform.live import Live
from pipeform.normal import equivalent, is_normal, normal_form
from pipeform.parting import parting_lines
from pipeform.powers import power
from pipeform.running import run, run_on_runs
from tests.model import HUGE, INVALID_ELEMENTS, all_commands

WITH_VALUE = [InvalidCommand, InvalidRun, InvalidIndex, InvalidNumber, Unreadable]

CALLS = {
    'run': lambda pipeline: run(pipeline, ['b', 'a']),
    'run on nothing': lambda pipeline: run(pipeline, []),
    'run_on_runs': lambda pipeline: run_on_runs(pipeline, [('a', 2)]),
    'run_on_runs on nothing': lambda pipeline: run_on_runs(pipeline, []),
    'normal_form': normal_form,
    'is_normal': is_normal,
    'equivalent, first': lambda pipeline: equivalent(pipeline, []),
    'equivalent, second': lambda pipeline: equivalent([], pipeline),
    'equivalent, both': lambda pipeline: equivalent(pipeline, pipeline),
    'parting_lines, first': lambda pipeline: parting_lines(pipeline, []),
    'parting_lines, second': lambda pipeline: parting_lines([('sort',)], pipeline),
    'parting_lines, both': lambda pipeline: parting_lines(pipeline, pipeline),
    'power': lambda pipeline: power(pipeline, 3),
    'power, no times': lambda pipeline: power(pipeline, 0),
    'count_inputs': lambda pipeline: count_inputs(pipeline, ['a'], 3, 2),
    'count_inputs, no lines': lambda pipeline: count_inputs(pipeline, [], 0, 1),
    'Live': lambda pipeline: Live(pipeline, ['b', 'a']),
    'Live on nothing': lambda pipeline: Live(pipeline, []),
}


class Classes(unittest.TestCase):
    def test_pipe_error_is_a_direct_subclass_of_value_error(self):
        self.assertEqual(PipeError.__bases__, (ValueError,))

    def test_the_others_are_direct_subclasses_of_pipe_error(self):
        for kind in WITH_VALUE:
            self.assertEqual(kind.__bases__, (PipeError,), kind)

    def test_there_are_no_other_classes(self):
        found = {thing for thing in vars(errors).values() if isinstance(thing, type)}
        self.assertEqual(found, {PipeError, *WITH_VALUE})

    def test_value_by_position_and_by_name(self):
        for kind in WITH_VALUE:
            for value in (0, 3, -1, HUGE, 'head 01', '', '{0} %d'):
                for error in (kind(value), kind(value=value)):
                    self.assertIs(type(error), kind)
                    self.assertEqual(error.value, value)
                    self.assertIs(type(error.value), type(value))

    def test_exactly_one_argument(self):
        for kind in WITH_VALUE:
            with self.assertRaises(TypeError):
                kind()
            with self.assertRaises(TypeError):
                kind(1, 2)

    def test_caught_as_pipe_error_and_as_value_error(self):
        for kind in WITH_VALUE:
            for caught in (kind, PipeError, ValueError):
                with self.assertRaises(caught):
                    raise kind(7)

    def test_not_caught_as_one_another(self):
        for kind in WITH_VALUE:
            for other in WITH_VALUE:
                self.assertEqual(issubclass(kind, other), kind is other)


class PipelineCheck(unittest.TestCase):
    def assert_invalid(self, call, pipeline, index):
        with self.assertRaises(InvalidCommand, msg=(call, pipeline)) as caught:
            CALLS[call](pipeline)
        self.assertIs(type(caught.exception), InvalidCommand)
        self.assertEqual(caught.exception.value, index, (call, pipeline))
        self.assertIs(type(caught.exception.value), int)

    def test_each_invalid_element_at_each_index(self):
        valid = [('head', 0), ('reverse',), ('skip', HUGE), ('sort',)]
        for call in CALLS:
            for element in INVALID_ELEMENTS:
                for index in range(5):
                    self.assert_invalid(call, valid[:index] + [element] + valid[index:], index)

    def test_the_first_of_several(self):
        for call in CALLS:
            for element in INVALID_ELEMENTS:
                for later in INVALID_ELEMENTS:
                    self.assert_invalid(call, [('uniq',), element, ('head', 2), later], 1)

    def test_commands_raise_nothing(self):
        for call in CALLS:
            CALLS[call]([])
            # Lists that part pipelines with large numbers may be too long to be written out.
            parting = 'parting' in call and 'both' not in call
            for command in all_commands([0, 1, 4] if parting else [0, 1, 2, 60, HUGE]):
                CALLS[call]([command])
                CALLS[call]([command] * (5 if parting else 12))

    def test_behind_a_command_that_keeps_nothing(self):
        for call in CALLS:
            self.assert_invalid(call, [('head', 0), ('sort',), ('tail', -1)], 2)

    def test_the_example(self):
        with self.assertRaises(InvalidCommand) as caught:
            run([('head', 2), ('sort', 1)], ['b', 'a'])
        self.assertEqual(caught.exception.value, 1)


class Order(unittest.TestCase):
    def test_pipeline_before_runs(self):
        for runs in ([('a', 0)], [('a', 1), ('b', -1)]):
            with self.assertRaises(InvalidCommand) as caught:
                run_on_runs([('uniq',), ('sort',), ('head',)], runs)
            self.assertEqual(caught.exception.value, 2)

    def test_first_pipeline_before_second(self):
        for function in (equivalent, parting_lines):
            for first, second, index in [
                ([('uniq',), ('uniq',), ('skip', -1)], [('reverse', 1)], 2),
                ([('skip',)], [('uniq',), ('reverse', 1)], 0),
                ([('uniq',)], [('uniq',), ('reverse', 1)], 1),
                ([], [('head', 0), ('sort',), ('tail',), ('chop',)], 2),
            ]:
                with self.assertRaises(InvalidCommand) as caught:
                    function(first, second)
                self.assertEqual(caught.exception.value, index, function)

    def test_pipeline_before_times(self):
        with self.assertRaises(InvalidCommand) as caught:
            power([('uniq',), ('head', -1)], -1)
        self.assertEqual(caught.exception.value, 1)


class Runs(unittest.TestCase):
    def assert_invalid(self, pipeline, runs, index):
        with self.assertRaises(InvalidRun) as caught:
            run_on_runs(pipeline, runs)
        self.assertIs(type(caught.exception), InvalidRun)
        self.assertEqual(caught.exception.value, index)
        self.assertIs(type(caught.exception.value), int)

    def test_counts_below_one_at_each_index(self):
        valid = [('a', 1), ('a', 2), ('b', HUGE)]
        for count in (0, -1, -HUGE):
            for index in range(4):
                for pipeline in ([], [('head', 0)], [('uniq',), ('tail', 1)]):
                    self.assert_invalid(pipeline, valid[:index] + [('a', count)] + valid[index:], index)

    def test_the_first_of_several(self):
        self.assert_invalid([], [('a', 1), ('a', -1), ('b', 0), ('c', 0)], 1)
        self.assert_invalid([], [('a', 0), ('a', -5)], 0)

    def test_positive_counts_raise_nothing(self):
        run_on_runs([], [])
        run_on_runs([('sort',)], [('a', 1), ('a', 1), ('b', HUGE)])


if __name__ == '__main__':
    unittest.main()
