"""Point 11, for the results of `run`: one more line changes a result by at most eight insertions and removals."""

import unittest
from random import Random

from pipeform.running import run
from tests.model import all_lists, all_pipelines, random_lines, random_pipeline


def longest_common(first, second):
    """The length of the longest list that results from both lists by removals alone."""
    above = [0] * (len(second) + 1)
    for line in first:
        row = [0]
        for at, other in enumerate(second):
            row.append(above[at] + 1 if line == other else max(above[at + 1], row[at]))
        above = row
    return above[-1]


class Changes(unittest.TestCase):
    def assert_close(self, pipeline, lines, index, line):
        old = run(pipeline, lines)
        new = run(pipeline, lines[:index] + [line] + lines[index:])
        common = longest_common(old, new)
        self.assertLessEqual(len(new) - common, 8, (pipeline, lines, index, line))
        self.assertLessEqual(len(old) - common, 8, (pipeline, lines, index, line))

    def test_the_measure(self):
        self.assertEqual(longest_common(list('abcbdab'), list('bdcaba')), 4)
        self.assertEqual(longest_common([], ['a']), 0)

    def test_short_pipelines_on_short_lists(self):
        for pipeline in all_pipelines([1, 2], 3):
            for lines in (list('aabba'), list('abab'), list('cab')):
                for index in range(len(lines) + 1):
                    self.assert_close(pipeline, lines, index, 'b')

    def test_all_short_lists(self):
        random = Random(12)
        pipelines = [random_pipeline(random, [1, 2, 3], 6) for _ in range(60)]
        for lines in all_lists('abc', 4):
            for index in range(len(lines) + 1):
                for pipeline in pipelines:
                    self.assert_close(pipeline, lines, index, 'a')

    def test_long_lists(self):
        random = Random(13)
        for _ in range(1500):
            lines = random_lines(random)
            pipeline = random_pipeline(random, [1, 2, 3, 5, 10, 20, 30, 50])
            for _ in range(3):
                self.assert_close(pipeline, lines, random.randint(0, len(lines)), random.choice('abcz'))

    def test_four_windows_one_behind_the_other(self):
        random = Random(14)
        for _ in range(1000):
            size = random.randint(20, 50)
            pipeline = [(random.choice(['head', 'tail']), size), ('uniq',), (random.choice(['head', 'tail']), size // 2),
                        ('sort',), (random.choice(['head', 'tail']), size // 3)]
            lines = random_lines(random)
            index = random.choice([0, len(lines), random.randint(0, len(lines))])
            self.assert_close(pipeline, lines, index, random.choice('abcz'))


if __name__ == '__main__':
    unittest.main()
