"""`run_on_runs`: lists that are too long to be written out."""

import unittest
from random import Random

from pipeform.running import run, run_on_runs
from tests.model import HUGE, SLICING, all_pipelines, plain_command, plain_run, random_pipeline, written_out


class View:
    """Lines by their positions: runs, of which a part is visible, perhaps from the end to the start."""

    def __init__(self, runs):
        self.runs = list(runs)
        self.low = 0
        self.high = sum(count for line, count in runs)
        self.turned = False

    def length(self):
        return self.high - self.low

    def line_at(self, position):
        at = self.high - 1 - position if self.turned else self.low + position
        for line, count in self.runs:
            if at < count:
                return line
            at -= count
        raise AssertionError('no such position')

    def edges(self):
        """Positions among which are the first and the last one of every visible run."""
        found = {0, self.length() - 1}
        edge = 0
        for line, count in self.runs:
            edge += count
            middle = self.high - edge if self.turned else edge - self.low
            found |= {middle - 1, middle}
        return sorted(at for at in found if 0 <= at < self.length())

    def apply(self, command):
        name, number = command[0], command[-1]
        if name == 'reverse':
            self.turned = not self.turned
        elif name in ('uniq', 'sort'):
            lines = plain_command(command, [self.line_at(at) for at in self.edges()])
            self.__init__([(line, 1) for line in lines])
        else:
            removed = max(0, self.length() - number) if name in ('head', 'tail') else min(number, self.length())
            if (name in ('tail', 'skip')) == self.turned:
                self.high -= removed
            else:
                self.low += removed


class Examples(unittest.TestCase):
    def test_the_example(self):
        runs = [('a', 10 ** 20 + 2), ('b', 1), ('b', 10 ** 9)]
        self.assertEqual(run_on_runs([('skip', 10 ** 20), ('head', 5)], runs), [('a', 2), ('b', 3)])

    def test_each_command_by_hand(self):
        runs = [('b', 3), ('a', HUGE), ('b', 2)]
        self.assertEqual(run_on_runs([('head', HUGE)], runs), [('b', 3), ('a', HUGE - 3)])
        self.assertEqual(run_on_runs([('tail', HUGE)], runs), [('a', HUGE - 2), ('b', 2)])
        self.assertEqual(run_on_runs([('skip', HUGE)], runs), [('a', 3), ('b', 2)])
        self.assertEqual(run_on_runs([('chop', HUGE)], runs), [('b', 3), ('a', 2)])
        self.assertEqual(run_on_runs([('reverse',)], runs), [('b', 2), ('a', HUGE), ('b', 3)])
        self.assertEqual(run_on_runs([('uniq',)], runs), [('b', 1), ('a', 1), ('b', 1)])
        self.assertEqual(run_on_runs([('sort',)], runs), [('a', 1), ('b', 1)])

    def test_edges_of_a_run(self):
        runs = [('a', HUGE), ('b', HUGE)]
        self.assertEqual(run_on_runs([('skip', HUGE - 1)], runs), [('a', 1), ('b', HUGE)])
        self.assertEqual(run_on_runs([('skip', HUGE)], runs), [('b', HUGE)])
        self.assertEqual(run_on_runs([('chop', HUGE)], runs), [('a', HUGE)])
        self.assertEqual(run_on_runs([('skip', HUGE), ('skip', HUGE - 1)], runs), [('b', 1)])
        self.assertEqual(run_on_runs([('skip', HUGE), ('skip', HUGE)], runs), [])

    def test_adjacent_runs_of_equal_lines(self):
        runs = [('a', 2), ('a', 3), ('b', 1), ('b', 1), ('b', 1), ('a', 1)]
        self.assertEqual(run_on_runs([], runs), [('a', 5), ('b', 3), ('a', 1)])
        self.assertEqual(run_on_runs([('uniq',)], runs), [('a', 1), ('b', 1), ('a', 1)])
        self.assertEqual(run_on_runs([('head', 3)], runs), [('a', 3)])
        self.assertEqual(run_on_runs([], [('a', HUGE)] * 60), [('a', 60 * HUGE)])

    def test_the_empty_list_of_runs(self):
        for pipeline in all_pipelines([0, 1, HUGE], 2):
            self.assertEqual(run_on_runs(pipeline, []), [])


class Comparisons(unittest.TestCase):
    def assert_merged(self, runs):
        self.assertIs(type(runs), list)
        for at, (line, count) in enumerate(runs):
            self.assertEqual((type(runs[at]), type(line), type(count)), (tuple, str, int))
            self.assertGreaterEqual(count, 1)
            self.assertTrue(at == 0 or runs[at - 1][0] != line, runs)

    def test_all_short_pipelines_against_plain_lines(self):
        samples = [
            [('a', 1)],
            [('a', 3)],
            [('b', 1), ('b', 1), ('a', 2)],
            [('a', 2), ('b', 1), ('a', 1), ('a', 1)],
            [('c', 1), ('a', 2), ('b', 1), ('c', 2)],
        ]
        for pipeline in all_pipelines(range(4), 2):
            for runs in samples:
                result = run_on_runs(pipeline, runs)
                self.assert_merged(result)
                self.assertEqual(written_out(result), plain_run(pipeline, written_out(runs)), (pipeline, runs))

    def test_long_pipelines_against_run(self):
        random = Random(3)
        for _ in range(3000):
            runs = [(random.choice('abc'), random.randint(1, 4)) for _ in range(random.randint(0, 12))]
            pipeline = random_pipeline(random, [0, 1, 2, 3, 5, 9, 14, HUGE])
            result = run_on_runs(pipeline, runs)
            self.assert_merged(result)
            self.assertEqual(written_out(result), run(pipeline, written_out(runs)), (pipeline, runs))

    def test_huge_counts_against_positions(self):
        random = Random(4)
        for _ in range(3000):
            counts = [1, 2, 3, 10 ** 9, HUGE - 1, HUGE, random.randint(1, HUGE)]
            runs = [(random.choice('abc'), random.choice(counts)) for _ in range(random.randint(1, 8))]
            numbers = [0, 1, 2, HUGE, HUGE - 1, 10 ** 9, random.randint(0, HUGE)]
            numbers += [max(0, runs[0][1] + step) for step in (-1, 0, 1)]
            pipeline = random_pipeline(random, [number for number in numbers if number <= HUGE])
            view = View(runs)
            for command in pipeline:
                view.apply(command)
            result = run_on_runs(pipeline, runs)
            self.assert_merged(result)
            seen = View(result)
            self.assertEqual(seen.length(), view.length(), (pipeline, runs))
            for at in view.edges() + seen.edges():
                self.assertEqual(seen.line_at(at), view.line_at(at), (pipeline, runs, at))

    def test_sixty_runs(self):
        runs = [('ab'[at & 1], HUGE - at) for at in range(60)]
        total = sum(count for line, count in runs)
        kept = run_on_runs([('skip', HUGE)] * 6 + [('chop', HUGE)] * 6, runs)
        self.assertEqual(sum(count for line, count in kept), total - 12 * HUGE)
        for name in SLICING:
            result = run_on_runs([(name, 1)], runs)
            self.assertEqual(sum(count for line, count in result), 1 if name in ('head', 'tail') else total - 1)


if __name__ == '__main__':
    unittest.main()
