"""Points 4, 5 and 6: `run`."""

import unittest
from random import Random

from pipeform.running import run
from tests.model import HUGE, all_commands, all_lists, all_pipelines, plain_run, random_lines, random_pipeline

LINES = ['x', 'b', 'b', 'a', 'b', 'c']


class Commands(unittest.TestCase):
    def test_the_example(self):
        self.assertEqual(run([('skip', 1), ('uniq',), ('tail', 3)], LINES), ['a', 'b', 'c'])

    def test_each_command_by_hand(self):
        self.assertEqual(run([('head', 2)], LINES), ['x', 'b'])
        self.assertEqual(run([('tail', 2)], LINES), ['b', 'c'])
        self.assertEqual(run([('skip', 2)], LINES), ['b', 'a', 'b', 'c'])
        self.assertEqual(run([('chop', 2)], LINES), ['x', 'b', 'b', 'a'])
        self.assertEqual(run([('reverse',)], LINES), ['c', 'b', 'a', 'b', 'b', 'x'])
        self.assertEqual(run([('uniq',)], LINES), ['x', 'b', 'a', 'b', 'c'])
        self.assertEqual(run([('sort',)], LINES), ['a', 'b', 'c', 'x'])

    def test_no_commands(self):
        self.assertEqual(run([], LINES), LINES)
        self.assertEqual(run([], []), [])

    def test_number_zero(self):
        for name in ('head', 'tail'):
            self.assertEqual(run([(name, 0)], LINES), [])
        for name in ('skip', 'chop'):
            self.assertEqual(run([(name, 0)], LINES), LINES)

    def test_numbers_about_the_number_of_lines(self):
        length = len(LINES)
        for number in (length, length + 1, HUGE):
            for name in ('head', 'tail'):
                self.assertEqual(run([(name, number)], LINES), LINES)
            for name in ('skip', 'chop'):
                self.assertEqual(run([(name, number)], LINES), [])
        self.assertEqual(run([('head', length - 1)], LINES), LINES[:-1])
        self.assertEqual(run([('tail', length - 1)], LINES), LINES[1:])
        self.assertEqual(run([('skip', length - 1)], LINES), ['c'])
        self.assertEqual(run([('chop', length - 1)], LINES), ['x'])

    def test_each_command_for_each_length(self):
        for lines in all_lists('ab', 5):
            length = len(lines)
            numbers = {0, 1, max(0, length - 1), length, length + 1, length + 2, 2 * length, HUGE}
            for command in all_commands(sorted(numbers)):
                self.assertEqual(run([command], lines), plain_run([command], lines), (command, lines))

    def test_the_empty_list(self):
        for command in all_commands([0, 1, 2, HUGE]):
            self.assertEqual(run([command], []), [])

    def test_string_order(self):
        lines = ['b', 'B', ' ', '', '~', 'ab', 'a', '10', '9', 'a', '']
        self.assertEqual(run([('sort',)], lines), ['', ' ', '10', '9', 'B', 'a', 'ab', 'b', '~'])

    def test_uniq_keeps_equal_lines_that_are_apart(self):
        self.assertEqual(run([('uniq',)], ['a', 'a', '', '', 'a', 'a', 'a']), ['a', '', 'a'])


class Pipelines(unittest.TestCase):
    def test_all_short_ones_on_short_lists(self):
        lists = list(all_lists('ab', 3)) + [list('cabbac'), list('aabcca')]
        for pipeline in all_pipelines(range(3), 2):
            for lines in lists:
                self.assertEqual(run(pipeline, lines), plain_run(pipeline, lines), (pipeline, lines))

    def test_up_to_twelve_commands(self):
        random = Random(1)
        for _ in range(3000):
            lines = random_lines(random)
            numbers = [0, 1, 2, 3, 5, 8, len(lines) // 2, max(0, len(lines) - 1), len(lines), HUGE]
            pipeline = random_pipeline(random, numbers)
            self.assertEqual(run(pipeline, lines), plain_run(pipeline, lines), (pipeline, lines))

    def test_cut_in_two_parts(self):
        random = Random(2)
        for _ in range(1000):
            lines = random_lines(random)
            pipeline = random_pipeline(random, [0, 1, 2, 3, 7, 20, HUGE])
            whole = run(pipeline, lines)
            for cut in range(len(pipeline) + 1):
                self.assertEqual(run(pipeline[cut:], run(pipeline[:cut], lines)), whole, (pipeline, cut, lines))

    def test_kinds_of_values(self):
        result = run([('sort',), ('reverse',)], LINES)
        self.assertIs(type(result), list)
        self.assertTrue(all(type(line) is str for line in result))


if __name__ == '__main__':
    unittest.main()
