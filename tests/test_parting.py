"""`parting_lines`: a list for which two pipelines differ, exactly if they are not equivalent."""

import unittest
from random import Random

from pipeform.normal import equivalent, normal_form
from pipeform.parting import parting_lines, telling_lists
from pipeform.powers import power
from pipeform.running import run
from tests.model import (
    SLICING, all_commands, all_lists, all_pipelines, plain_run, random_lines, random_pipeline, small_changes,
)

SIGNS = {chr(code) for code in range(32, 127)}


class Pairs(unittest.TestCase):
    def setUp(self):
        self.random = Random(21)
        self.lists = list(all_lists('ab', 4)) + [random_lines(self.random, 30) for _ in range(20)]
        self.seen = {True: 0, False: 0}

    def check(self, first, second):
        """Check both orders of a pair; equivalent pairs against plain results on many lists."""
        same = equivalent(first, second)
        self.seen[same] += 1
        for one, other in ((first, second), (second, first)):
            lines = parting_lines(one, other)
            if same:
                self.assertIsNone(lines, (one, other))
            else:
                self.assert_parted(one, other, lines)
        if same:
            for lines in self.lists:
                self.assertEqual(plain_run(first, lines), plain_run(second, lines), (first, second))

    def assert_parted(self, first, second, lines):
        self.assertIs(type(lines), list, (first, second))
        self.assertLessEqual(len(lines), 60)
        for line in lines:
            self.assertIs(type(line), str)
            self.assertLessEqual(len(line), 20)
            self.assertLessEqual(set(line), SIGNS)
        self.assertNotEqual(run(first, lines), run(second, lines), (first, second))
        self.assertNotEqual(plain_run(first, lines), plain_run(second, lines), (first, second))

    def test_the_example(self):
        self.check([('skip', 1), ('uniq',)], [('uniq',), ('skip', 1)])
        self.assertEqual(self.seen, {True: 0, False: 1})

    def test_by_hand(self):
        self.assertIsNone(parting_lines([], []))
        self.assertIsNone(parting_lines([('uniq',), ('sort',)], [('sort',)]))
        self.assertIsNone(parting_lines([('head', 0), ('sort',)], [('reverse',), ('tail', 0)]))
        for first, second in [
            ([], [('head', 0)]),
            ([], [('reverse',)]),
            ([('uniq',)], [('sort',)]),
            ([('skip', 4)] * 5, [('skip', 4)] * 4 + [('skip', 3)]),
            ([('skip', 4)] * 5, [('chop', 4)] * 5),
            ([('skip', 4)] * 4 + [('head', 4)], [('skip', 4)] * 4 + [('tail', 4)]),
            ([('tail', 4), ('uniq',), ('tail', 2)], [('tail', 3), ('uniq',), ('tail', 2)]),
            ([('tail', 4), ('uniq',), ('head', 3), ('tail', 1)], [('uniq',), ('head', 3), ('tail', 1)]),
            ([('uniq',), ('skip', 1), ('chop', 1), ('sort',)], [('sort',), ('skip', 1), ('chop', 1)]),
            ([('head', 3), ('sort',), ('skip', 1), ('chop', 1)], [('head', 3), ('uniq',), ('skip', 1), ('chop', 1)]),
            ([('tail', 4), ('head', 3)], [('head', 4), ('tail', 3)]),
            ([('head', 4), ('tail', 1)], [('uniq',), ('head', 4), ('tail', 1)]),
            ([('uniq',), ('skip', 4), ('sort',), ('skip', 4), ('head', 1)], [('sort',), ('skip', 4), ('skip', 4)]),
        ]:
            self.assertIs(equivalent(first, second), False)
            self.check(first, second)

    def test_all_pairs_of_pipelines_of_one_command(self):
        pipelines = list(all_pipelines(range(5), 1))
        for first in pipelines:
            for second in pipelines:
                self.check(first, second)

    def test_a_small_change_in_a_short_pipeline(self):
        for pipeline in all_pipelines(range(3), 2):
            for other in small_changes(pipeline, range(3)):
                self.check(pipeline, other)
        self.assertGreater(min(self.seen.values()), 1000)

    def test_a_small_change_in_a_drawn_pipeline(self):
        for _ in range(1500):
            pipeline = random_pipeline(self.random, range(5), 5)
            others = [other for other in small_changes(pipeline, range(5)) if len(other) <= 5]
            for other in self.random.sample(others, 8):
                self.check(pipeline, other)
        self.assertGreater(min(self.seen.values()), 1000)

    def test_drawn_pairs(self):
        for numbers in (range(5), range(1, 5), [1, 2], [3, 4]):
            for _ in range(1000):
                self.check(random_pipeline(self.random, numbers, 5), random_pipeline(self.random, numbers, 5))

    def test_nearly_equal_normal_forms(self):
        slices = [[(name, number)] for name in SLICING for number in (1, 2, 4)] + [[]]
        for _ in range(1500):
            before, between, behind, other = (self.random.choice(slices) for _ in range(4))
            first = before + [('uniq',)] + between + [('sort',)] + behind
            for second in (
                other + [('uniq',)] + between + [('sort',)] + behind,
                before + [('uniq',)] + other + [('sort',)] + behind,
                before + [('uniq',)] + between + [('sort',)] + other,
                between + [('uniq',)] + before + [('sort',)] + behind,
                before + [('uniq',)] + behind + [('sort',)] + between,
                before + between + [('uniq',), ('sort',)] + behind,
                before + [('uniq',)] + between + behind,
                before + between + behind,
            ):
                self.check(first, second)

    def test_somewhat_beyond_the_bounds(self):
        for _ in range(150):
            pipeline = random_pipeline(self.random, range(8), 8)
            others = list(small_changes(pipeline, range(8)))
            for other in self.random.sample(others, 4):
                self.check(pipeline, other)

    def test_large_numbers(self):
        large = power([('uniq',), ('skip', 10 ** 20), ('chop', 3)], 10 ** 29)
        self.assertIsNone(parting_lines(large, list(large)))
        self.check(large, [])
        self.check(large, [('sort',), ('tail', 2)])
        self.check([('head', 10 ** 59), ('uniq',)], [('head', 10 ** 59)])
        self.check([('head', 10 ** 59), ('uniq',)], [('head', 10 ** 59), ('sort',)])


class TellingLists(unittest.TestCase):
    def test_they_tell_all_normal_forms_of_few_commands_apart(self):
        level = found = {()}
        for _ in range(4):
            level = {tuple(normal_form([*form, command])) for form in level for command in all_commands(range(5))}
            found = found | level
        alike = [sorted(found)]
        self.assertGreater(len(found), 7000)
        for length in range(1, 18):
            for lines in telling_lists(length):
                alike = [part for forms in alike for part in self.parts(forms, lines)]
        self.assertEqual(alike, [])

    def parts(self, forms, lines):
        """The forms by their results, without those that no other one is like."""
        parts = {}
        for form in forms:
            parts.setdefault(tuple(run(list(form), lines)), []).append(form)
        return [part for part in parts.values() if len(part) > 1]

    def test_they_have_as_many_lines_as_asked_for(self):
        for length in range(1, 25):
            for lines in telling_lists(length):
                self.assertEqual(len(lines), length)

    def test_a_list_without_equal_lines_is_in_string_order(self):
        for length in (1, 2, 9, 10, 11, 25, 99, 100, 101):
            rising = telling_lists(length)[0]
            self.assertEqual(rising, sorted(set(rising)))
            self.assertIn(rising[::-1], telling_lists(length))


if __name__ == '__main__':
    unittest.main()
