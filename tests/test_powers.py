"""`power`: normal forms of pipelines that are repeated."""

import unittest
from random import Random

from pipeform.errors import InvalidCommand, InvalidNumber
from pipeform.live import Live
from pipeform.normal import equivalent, is_normal, normal_form
from pipeform.parting import parting_lines
from pipeform.powers import power
from pipeform.running import run, run_on_runs
from tests.model import (
    HUGE, INVALID_ELEMENTS, all_pipelines, plain_run, random_lines, random_pipeline, satisfies_point_9,
)

MANY = 10 ** 29
U, S, R = [('uniq',)], [('sort',)], [('reverse',)]


def head(number):
    return [('head', number)]


def tail(number):
    return [('tail', number)]


def skip(number):
    return [('skip', number)]


def chop(number):
    return [('chop', number)]


class SmallNumbersOfTimes(unittest.TestCase):
    def test_the_example(self):
        self.assertEqual(power([('skip', 1), ('head', 5)], 2), [('skip', 2), ('head', 4)])
        self.assertEqual(power([('uniq',), ('skip', 3)], 10 ** 20), [('uniq',), ('skip', 300000000000000000000)])

    def test_no_times_and_one_time(self):
        for pipeline in all_pipelines(range(4), 2):
            self.assertEqual(power(pipeline, 0), [])
            self.assertEqual(power(pipeline, 1), normal_form(pipeline))

    def test_short_pipelines(self):
        for pipeline in all_pipelines(range(4), 2):
            for times in range(8):
                self.assertEqual(power(pipeline, times), normal_form(pipeline * times), (pipeline, times))

    def test_as_many_runs(self):
        random = Random(31)
        for _ in range(1500):
            pipeline = random_pipeline(random, [0, 1, 1, 2, 2, 3, 5, 9, 20, 40])
            lines = random_lines(random)
            result = lines
            for times in range(8):
                form = power(pipeline, times)
                self.assertTrue(satisfies_point_9(form), (pipeline, times))
                self.assertEqual(form, normal_form(pipeline * times), (pipeline, times))
                self.assertEqual(plain_run(form, lines), result, (pipeline, times, lines))
                result = plain_run(pipeline, result)

    def test_dozens_of_times(self):
        random = Random(32)
        for _ in range(150):
            pipeline = random_pipeline(random, [1, 1, 2, 3, 30, 60, 90], 6)
            for times in (15, 16, 17, 31, 32, 33, 59, 60, 61):
                self.assertEqual(power(pipeline, times), normal_form(pipeline * times), (pipeline, times))


class LargeNumbers(unittest.TestCase):
    def assert_powers(self, rows):
        for pipeline, times, expected in rows:
            form = power(pipeline, times)
            self.assertEqual(form, expected, (pipeline, times))
            self.assertIs(is_normal(form), True)

    def test_skips_and_chops_add_up(self):
        self.assert_powers([
            (skip(1), MANY, skip(MANY)),
            (chop(HUGE), MANY, chop(HUGE * MANY)),
            (skip(HUGE), HUGE, skip(HUGE * HUGE)),
            (skip(2) + chop(3) + skip(1), MANY + 1, skip(3 * MANY + 3) + chop(3 * MANY + 3)),
            (skip(0) + chop(0), MANY, []),
            ([], MANY, []),
            (U + skip(2) + chop(1), MANY, U + skip(2 * MANY) + chop(MANY)),
            (skip(2) + U + chop(1), MANY, skip(2) + U + skip(2 * MANY - 2) + chop(MANY)),
            (S + chop(2), MANY, S + chop(2 * MANY)),
            (chop(2) + S, MANY, chop(2) + S + chop(2 * MANY - 2)),
            (skip(1) + U + skip(10) + S + skip(100), MANY, skip(1) + U + skip(10) + S + skip(111 * MANY - 11)),
        ])

    def test_heads_and_tails_are_used_up(self):
        for times in (1, 2, 3, 1000, MANY - 1, MANY):
            self.assert_powers([
                (skip(1) + head(times), times, skip(times) + head(1)),
                (skip(1) + head(times), times + 1, head(0)),
                (head(times) + skip(1), times, head(0)),
                (head(times + 1) + skip(1), times, skip(times) + head(1)),
                (tail(times + 1) + chop(1), times, chop(times) + tail(1)),
                (tail(times) + chop(1), times, head(0)),
                (tail(3 * times + 1) + skip(2) + chop(1), times, skip(2 * times) + chop(times) + tail(1)),
                (tail(3 * times) + skip(2) + chop(1), times, head(0)),
                (head(2 * times + 9) + tail(2 * times + 7) + skip(2), times, skip(2 * times) + head(9) + tail(7)),
            ])
        self.assert_powers([
            (head(5), MANY, head(5)),
            (head(5) + tail(3) + head(4), MANY, head(5) + tail(3)),
            (head(0), MANY, head(0)),
            (skip(1) + head(5), MANY, head(0)),
            (head(HUGE) + tail(HUGE - 1) + skip(1), MANY, skip(MANY) + head(HUGE - MANY) + tail(HUGE - 1 - MANY)),
        ])

    def test_reverse(self):
        self.assert_powers([
            (R, MANY, []),
            (R, MANY + 1, R),
            (R + skip(1), MANY, skip(MANY // 2) + chop(MANY // 2)),
            (R + skip(1), MANY + 1, skip(MANY // 2) + chop(MANY // 2 + 1) + R),
            (skip(3) + R + skip(1), MANY, skip(2 * MANY) + chop(2 * MANY)),
            (head(MANY) + R, MANY, head(MANY)),
            (head(MANY) + R, MANY - 1, head(MANY) + R),
            (head(MANY + 2) + skip(1) + R, MANY, skip(MANY // 2) + chop(MANY // 2) + head(2)),
            (head(MANY + 2) + skip(1) + R, MANY + 1, skip(MANY // 2 + 1) + chop(MANY // 2) + head(1)),
            (head(MANY + 2) + skip(1) + R, MANY + 2, head(0)),
            (S + R, MANY, S + R),
            (R + S, MANY + 1, S),
            (S + R + skip(1), MANY, S + chop(MANY) + R),
            (U + R + skip(1), MANY, U + skip(MANY // 2) + chop(MANY // 2)),
        ])

    def test_uniq_and_sort_with_heads_and_tails(self):
        self.assert_powers([
            (U + head(MANY + 1) + skip(1), MANY - 1, U + skip(MANY - 1) + head(2)),
            (U + head(MANY + 1) + skip(1), MANY, U + skip(MANY) + head(1)),
            (U + head(MANY + 1) + skip(1), MANY + 1, head(0)),
            (head(MANY + 1) + U + skip(1), MANY, head(MANY + 1) + U + skip(MANY)),
            (head(MANY) + U + skip(1), MANY, head(0)),
            (U + head(1), MANY, head(1)),
            (U + tail(2) + head(1), MANY, U + tail(2) + head(1)),
            (S + tail(MANY + 2) + chop(1), MANY, S + chop(MANY) + tail(2)),
            (S + tail(MANY) + chop(1), MANY, head(0)),
            (tail(MANY + 2) + S + chop(1), MANY, tail(MANY + 2) + S + chop(MANY)),
            (tail(MANY + 1) + U + chop(1) + S + R, MANY, tail(MANY + 1) + U + chop(1) + S + skip(MANY - 1)),
            (tail(MANY + 2) + U + chop(1) + S + R, MANY, tail(MANY + 2) + U + chop(1) + S + skip(MANY - 1) + R),
            (tail(MANY + 2) + U + chop(1) + S, MANY, tail(MANY + 2) + U + chop(1) + S + chop(MANY - 1)),
        ])

    def test_sums_and_products_of_numbers_of_times(self):
        random = Random(33)
        for _ in range(500):
            close = random.randint(10, HUGE)
            pipeline = random_pipeline(random, [0, 1, 1, 2, 3, HUGE, HUGE - 1, MANY, MANY - 1, close, close + 1])
            first, second = random.choice([1, 2, 3, MANY, close]), random.choice([0, 1, 2, MANY + 1, close + 1])
            forms = [power(pipeline, first), power(pipeline, second)]
            self.assertEqual(power(pipeline, first + second), normal_form(forms[0] + forms[1]))
            self.assertEqual(power(forms[0], second), power(pipeline, first * second))
            self.assertTrue(satisfies_point_9(forms[0]), (pipeline, first))

    def test_the_pipelines_stay_short(self):
        random = Random(34)
        for _ in range(500):
            pipeline = random_pipeline(random, [1, 2, 3, HUGE, HUGE - 1, HUGE - 2, MANY])
            for times in (MANY, HUGE):
                self.assertLessEqual(len(power(pipeline, times)), 24, pipeline)

    def test_results_of_large_powers(self):
        runs = [('b', MANY), ('a', 3), ('c', MANY)]
        self.assertEqual(run_on_runs(power(skip(1), MANY + 1), runs), [('a', 2), ('c', MANY)])
        self.assertEqual(run_on_runs(power(R + skip(1), 2 * MANY), runs), [('a', 3)])
        self.assertEqual(run_on_runs(power(tail(2 * MANY) + chop(1), MANY - 1), runs),
                         [('b', MANY - 3), ('a', 3), ('c', 1)])


class Errors(unittest.TestCase):
    def test_negative_numbers_of_times(self):
        for pipeline in ([], skip(1), head(0), U + chop(HUGE)):
            for times in (-1, -2, -MANY):
                with self.assertRaises(InvalidNumber) as caught:
                    power(pipeline, times)
                self.assertIs(type(caught.exception), InvalidNumber)
                self.assertEqual(caught.exception.value, times)
                self.assertIs(type(caught.exception.value), int)

    def test_no_other_number_of_times(self):
        for times in (0, 1, 2, MANY, HUGE, HUGE ** 2):
            power(U + skip(1) + R, times)

    def test_pipeline_before_times(self):
        for element in INVALID_ELEMENTS:
            for times in (-MANY, -1, 0, 1, MANY):
                for index in range(3):
                    with self.assertRaises(InvalidCommand) as caught:
                        power((U + skip(1))[:index] + [element, ('head',)], times)
                    self.assertIs(type(caught.exception), InvalidCommand)
                    self.assertEqual(caught.exception.value, index)


class PassedOn(unittest.TestCase):
    def test_every_function_takes_what_power_returns(self):
        lines = ['b', 'a', 'a', 'c']
        mixed = skip(1) + U + skip(HUGE) + S + chop(1)
        for pipeline in (skip(HUGE), U + chop(3) + skip(HUGE), S + R + skip(HUGE), mixed):
            for times in (MANY, HUGE):
                form = power(pipeline, times)
                self.assertGreater(max(command[-1] for command in form if len(command) == 2), HUGE)
                self.assertEqual(run(form, lines), [])
                self.assertEqual(run_on_runs(form, [('a', HUGE)]), [])
                self.assertEqual(normal_form(form), form)
                self.assertIs(is_normal(form), True)
                self.assertIs(equivalent(form, pipeline), False)
                self.assertIsNone(parting_lines(form, form))
                parted = parting_lines(form, U)
                self.assertNotEqual(run(form, parted), run(U, parted))
                self.assertEqual(power(form, 2), normal_form(form + form))
                live = Live(form, lines)
                self.assertEqual(live.insert(0, 'x'), [])
                self.assertEqual(live.result(), [])
                self.assertEqual(live, Live(form + [('reverse',), ('reverse',)], ['x', *lines]))


if __name__ == '__main__':
    unittest.main()
