"""`count_inputs`: numbers of lists with a given result."""

import unittest
from collections import Counter
from itertools import combinations, product
from math import comb
from random import Random

from pipeform.counting import count_inputs
from pipeform.errors import InvalidCommand, InvalidNumber
from pipeform.normal import normal_form
from pipeform.powers import power
from pipeform.running import run
from tests.model import HUGE, INVALID_ELEMENTS, all_lists, all_pipelines, plain_run, random_pipeline

U, S, R = [('uniq',)], [('sort',)], [('reverse',)]
LETTERS = 'abcdefghijklmnopqrstuvwxyz'
NO_LETTERS = ['z', 'A', '', 'ab', ' ', 'a ', '~', '1', 'bc', 'abc', 'abcd']


def results(pipeline, length, kinds):
    """How many of the lists have each result, by `run`."""
    return Counter(tuple(run(pipeline, list(lines))) for lines in product(LETTERS[:kinds], repeat=length))


def lists_of(length, letters):
    return [list(lines) for lines in product(letters, repeat=length)]


class Counting(unittest.TestCase):
    def assert_counts(self, pipeline, length, kinds):
        """Compare the numbers of all results that occur, and of some that are close to them."""
        expected = results(pipeline, length, kinds)
        total = 0
        for result, number in expected.items():
            counted = count_inputs(pipeline, list(result), length, kinds)
            self.assertEqual(counted, number, (pipeline, result, length, kinds))
            total += counted
        self.assertEqual(total, kinds ** length, (pipeline, length, kinds))
        return expected

    def assert_close_ones(self, random, pipeline, length, kinds, expected):
        for result in random.sample(sorted(expected), min(len(expected), 6)):
            for other in self.close_ones(random, list(result)):
                counted = count_inputs(pipeline, other, length, kinds)
                self.assertEqual(counted, expected.get(tuple(other), 0), (pipeline, other, length, kinds))

    def close_ones(self, random, result):
        """Results with a line changed, removed or added, in another order, or of no letters."""
        at = random.randint(0, len(result))
        line = random.choice('abcde')
        yield result[:at] + [line] + result[at + 1:]
        yield result[:at] + result[at + 1:]
        yield result[:at] + [line] + result[at:]
        yield result[:at] + [random.choice(NO_LETTERS)] + result[at + 1:]
        yield result[:at] + [random.choice(NO_LETTERS)] + result[at:]
        yield result[:at] + result[at:at + 1] + result[at:]
        yield result[::-1]
        yield sorted(result)
        yield result + result


class AllResults(Counting):
    def test_all_short_pipelines(self):
        random = Random(61)
        for pipeline in all_pipelines([0, 1, 2], 2):
            for length in range(4):
                for kinds in (1, 2, 3):
                    expected = self.assert_counts(pipeline, length, kinds)
                    self.assert_close_ones(random, pipeline, length, kinds, expected)

    def test_drawn_pipelines(self):
        random = Random(62)
        for numbers in ([0, 1, 2, 3, 4], [1, 1, 2, 2, 3, HUGE], [1, HUGE - 1, HUGE, 10 ** 40]):
            for _ in range(700):
                pipeline = random_pipeline(random, numbers, 6)
                length, kinds = random.randint(0, 6), random.randint(1, 4)
                if kinds ** length > 300 and random.random() < 0.8:
                    length = 3
                expected = self.assert_counts(pipeline, length, kinds)
                self.assert_close_ones(random, pipeline, length, kinds, expected)

    def test_twelve_commands(self):
        random = Random(63)
        for _ in range(400):
            pipeline = random_pipeline(random, [1, 1, 2, 3, 4, 5], 12)
            length = random.randint(3, 5)
            expected = self.assert_counts(pipeline, length, 3)
            self.assert_close_ones(random, pipeline, length, 3, expected)

    def test_each_shape(self):
        """Slices before uniq, between uniq and sort, and behind sort, with and without reverse."""
        random = Random(64)
        slices = [[], [('skip', 1)], [('chop', 1)], [('head', 3)], [('tail', 2)], [('skip', 2), ('chop', 1)],
                  [('head', 4), ('tail', 3), ('head', 2)], [('skip', 1), ('tail', 4)], [('head', 1)], [('head', 0)]]
        for first, second, third in product(slices, repeat=3):
            for pipeline in (first + U + second, first + S + third, first + U + second + S + third):
                length, kinds = random.choice([(2, 4), (3, 3), (4, 2), (4, 3), (5, 2), (6, 1), (6, 2)])
                expected = self.assert_counts(pipeline + random.choice([[], R]), length, kinds)
                self.assertEqual(sum(expected.values()), kinds ** length)

    def test_the_largest_numbers_of_lists(self):
        random = Random(65)
        pipelines = [
            U, S, U + [('skip', 2)], U + [('head', 4), ('tail', 3)], [('skip', 1)] + U + [('chop', 2)] + R,
            U + [('skip', 1)] + S + [('tail', 2)] + R, [('chop', 2)] + S + [('skip', 1)], [('tail', 5)] + U + S + R,
            [('head', 5), ('tail', 4)] + U + [('head', 3), ('tail', 2)] + S + [('head', 1)],
        ]
        for pipeline in pipelines:
            for length, kinds in ((6, 4), (6, 3), (5, 4)):
                expected = self.assert_counts(pipeline, length, kinds)
                self.assert_close_ones(random, pipeline, length, kinds, expected)

    def test_every_list_of_few_lines_as_a_result(self):
        lists = list(all_lists('abcd', 4))
        for pipeline in (U, S, R, U + [('skip', 1)], S + [('chop', 1)] + R, U + [('tail', 2)] + S, [('head', 2)] + U):
            for length, kinds in ((0, 2), (3, 2), (4, 3), (5, 1)):
                expected = results(pipeline, length, kinds)
                for result in lists:
                    counted = count_inputs(pipeline, result, length, kinds)
                    self.assertEqual(counted, expected[tuple(result)], (pipeline, result, length, kinds))

    def test_against_plain_results(self):
        random = Random(66)
        for _ in range(300):
            pipeline = random_pipeline(random, [0, 1, 1, 2, 3], 8)
            length, kinds = random.randint(0, 4), random.randint(1, 3)
            expected = Counter(tuple(plain_run(pipeline, lines)) for lines in lists_of(length, LETTERS[:kinds]))
            for result, number in expected.items():
                self.assertEqual(count_inputs(pipeline, list(result), length, kinds), number)


class Reckoned(unittest.TestCase):
    """Numbers that are reckoned without any results of pipelines."""

    def test_the_example(self):
        self.assertEqual(count_inputs([('uniq',)], ['a', 'b'], 4, 3), 3)
        self.assertEqual(count_inputs([('sort',)], ['a', 'b'], 3, 2), 6)
        self.assertEqual(count_inputs([], ['z'], 1, 2), 0)

    def test_normal_slices(self):
        slices = [
            ([], lambda length: length),
            ([('skip', 2)], lambda length: max(0, length - 2)),
            ([('chop', 3)], lambda length: max(0, length - 3)),
            ([('skip', 1), ('chop', 2)], lambda length: max(0, length - 3)),
            ([('head', 2)], lambda length: min(length, 2)),
            ([('tail', 4), ('head', 3)], lambda length: min(length, 3)),
            ([('skip', 1), ('chop', 1), ('head', 3), ('tail', 2)], lambda length: min(max(0, length - 2), 2)),
            ([('skip', HUGE)], lambda length: 0),
            ([('chop', HUGE), ('head', HUGE)], lambda length: 0),
            ([('head', HUGE), ('tail', HUGE - 1)], lambda length: length),
            ([('head', 0)], lambda length: 0),
        ]
        for pipeline, kept in slices:
            for turned in ([], R):
                for length in range(7):
                    for kinds in range(1, 5):
                        self.assert_slice(pipeline + turned, kept(length), length, kinds)

    def assert_slice(self, pipeline, kept, length, kinds):
        for size in range(7):
            expected = kinds ** (length - kept) if size == kept else 0
            for result in (['a'] * size, (list(LETTERS[:kinds]) * 6)[:size], list(LETTERS[:kinds][::-1] * 6)[:size]):
                self.assertEqual(count_inputs(pipeline, result, length, kinds), expected, (pipeline, result))
            if size > 0:
                for line in (LETTERS[kinds], *NO_LETTERS):
                    result = ['a'] * (size - 1) + [line]
                    self.assertEqual(count_inputs(pipeline, result, length, kinds), 0, (pipeline, result))

    def test_uniq_alone(self):
        for length in range(7):
            for kinds in range(1, 5):
                for result in all_lists('abcde'[:kinds + 1], 4):
                    expected = 0
                    if length == 0:
                        expected = int(result == [])
                    elif result and all(one != other for one, other in zip(result, result[1:])):
                        if set(result) <= set(LETTERS[:kinds]):
                            expected = comb(length - 1, len(result) - 1)
                    self.assertEqual(count_inputs(U, result, length, kinds), expected, (result, length, kinds))

    def test_sort_alone(self):
        for length in range(7):
            for kinds in range(1, 5):
                for many in range(kinds + 1):
                    # All lists, less those without one of the lines, and so on.
                    onto = sum((-1) ** left_out * comb(many, left_out) * (many - left_out) ** length
                               for left_out in range(many + 1))
                    for chosen in combinations(LETTERS[:kinds], many):
                        self.assertEqual(count_inputs(S, list(chosen), length, kinds), onto)
                        self.assertEqual(count_inputs(S + R, list(chosen[::-1]), length, kinds), onto)
                        if many > 1:
                            self.assertEqual(count_inputs(S, list(chosen[::-1]), length, kinds), 0)
                            self.assertEqual(count_inputs(S, [chosen[0], *chosen], length, kinds), 0)
                for result in (['z'], ['a', 'z'], [LETTERS[kinds]], ['']):
                    self.assertEqual(count_inputs(S, result, length, kinds), 0)

    def test_no_lines(self):
        for pipeline in ([], U, S, R, [('skip', 1)], U + [('head', 1)] + S + R, [('head', 0)]):
            for kinds in range(1, 5):
                self.assertEqual(count_inputs(pipeline, [], 0, kinds), 1)
                self.assertEqual(count_inputs(pipeline, ['a'], 0, kinds), 0)

    def test_one_kind(self):
        for length in range(1, 7):
            self.assertEqual(count_inputs(U, ['a'], length, 1), 1)
            self.assertEqual(count_inputs(U + [('skip', 1)], [], length, 1), 1)
            self.assertEqual(count_inputs(U + [('skip', 1)], ['a'], length, 1), 0)
            self.assertEqual(count_inputs(S + [('chop', 1)], [], length, 1), 1)

    def test_results_are_whole_lines(self):
        for pipeline in ([], R, U, S):
            for result in ([''], ['ab'], ['a', ''], ['abc'], ['aa'], ['A'], ['a ']):
                self.assertEqual(count_inputs(pipeline, result, len(result), 4), 0, (pipeline, result))

    def test_somewhat_beyond_the_bounds(self):
        self.assertEqual(count_inputs([('head', 2)], ['h', 'g'], 12, 8), 8 ** 10)
        self.assertEqual(count_inputs(U, ['a', 'e', 'a'], 40, 5), comb(39, 2))
        self.assertEqual(count_inputs(U + [('head', 2)] + S + [('skip', 1), ('head', 1)], ['b'], 9, 6),
                         sum(comb(8, runs - 1) * 2 * 5 ** (runs - 2) for runs in range(2, 10)))
        self.assertEqual(count_inputs(S, ['a', 'f'], 60, 6), 2 ** 60 - 2)
        self.assertEqual(count_inputs([], ['z', 'a'], 2, 26), 1)


class Answers(unittest.TestCase):
    def test_equivalent_pipelines_have_equal_numbers(self):
        random = Random(67)
        for _ in range(1500):
            pipeline = random_pipeline(random, [0, 1, 1, 2, 3, HUGE])
            lines = [random.choice('abc') for _ in range(random.randint(0, 6))]
            result = run(pipeline, lines)
            numbers = [count_inputs(form, result, len(lines), 3) for form in (pipeline, normal_form(pipeline), pipeline)]
            self.assertGreaterEqual(numbers[0], 1)
            self.assertEqual(numbers, numbers[:1] * 3)

    def test_powers(self):
        self.assertEqual(count_inputs(power(U + [('skip', HUGE)], HUGE), [], 6, 4), 4 ** 6)
        self.assertEqual(count_inputs(power([('head', HUGE ** 2)], HUGE), ['a'] * 6, 6, 4), 1)
        self.assertEqual(count_inputs(power([('skip', 1)], 5), ['d'], 6, 4), 4 ** 5)

    def test_the_kind_of_value(self):
        for pipeline in ([], U, S, [('head', 0)]):
            for result in ([], ['a'], ['z']):
                self.assertIs(type(count_inputs(pipeline, result, 1, 2)), int)

    def test_arguments_by_name(self):
        self.assertEqual(count_inputs(pipeline=U, result=['a', 'b'], length=4, kinds=3), 3)
        self.assertEqual(count_inputs(kinds=3, length=4, result=['a', 'b'], pipeline=U), 3)
        self.assertEqual(count_inputs(U, ['a', 'b'], kinds=3, length=4), 3)


class Errors(unittest.TestCase):
    def assert_raises(self, kind, value, *arguments):
        with self.assertRaises(kind) as caught:
            count_inputs(*arguments)
        self.assertIs(type(caught.exception), kind, arguments)
        self.assertEqual(caught.exception.value, value, arguments)
        self.assertIs(type(caught.exception.value), int)

    def test_the_pipeline_first(self):
        for element in INVALID_ELEMENTS:
            for index in range(3):
                for length, kinds in ((3, 2), (-1, 2), (3, 0), (-4, -5), (0, 1)):
                    pipeline = (U + [('skip', 1)])[:index] + [element, ('head',)]
                    self.assert_raises(InvalidCommand, index, pipeline, ['a'], length, kinds)

    def test_then_the_length(self):
        for length in (-1, -2, -6, -HUGE):
            for kinds in (1, 4, 0, -1, -HUGE):
                for pipeline in ([], U, [('head', 0)]):
                    self.assert_raises(InvalidNumber, length, pipeline, [], length, kinds)

    def test_then_the_kinds(self):
        for kinds in (0, -1, -3, -HUGE):
            for length in (0, 1, 6):
                for result in ([], ['a'], ['z']):
                    self.assert_raises(InvalidNumber, kinds, S, result, length, kinds)

    def test_nothing_else(self):
        for length in range(7):
            for kinds in range(1, 5):
                self.assertEqual(count_inputs([('head', 0)], [], length, kinds), kinds ** length)


if __name__ == '__main__':
    unittest.main()
