"""Points 8 and 9: `is_normal`."""

import unittest
from random import Random

from pipeform.normal import is_normal
from tests.model import HUGE, all_pipelines, random_pipeline, satisfies_point_9

U, S, R = [('uniq',)], [('sort',)], [('reverse',)]


def head(number):
    return [('head', number)]


def tail(number):
    return [('tail', number)]


def skip(number):
    return [('skip', number)]


def chop(number):
    return [('chop', number)]


class Shapes(unittest.TestCase):
    def assert_normal(self, *pipelines):
        for pipeline in pipelines:
            self.assertIs(is_normal(pipeline), True, pipeline)
            self.assertTrue(satisfies_point_9(pipeline), pipeline)

    def assert_not_normal(self, *pipelines):
        for pipeline in pipelines:
            self.assertIs(is_normal(pipeline), False, pipeline)
            self.assertFalse(satisfies_point_9(pipeline), pipeline)

    def test_the_examples(self):
        self.assert_normal([], head(2) + tail(1), head(5) + S + skip(2) + head(2))
        self.assert_not_normal(tail(2) + tail(1), head(1) + U, head(5) + S + skip(2) + head(3))

    def test_the_pipeline_that_keeps_nothing(self):
        self.assert_normal(head(0))
        self.assert_not_normal(
            tail(0), head(0) + R, head(0) + U, head(0) + S, R + head(0), U + head(0), S + head(0), S + tail(0),
            skip(1) + head(0), head(0) + skip(1), head(0) + head(0), head(1) + tail(0), U + head(0) + S,
        )

    def test_parts_of_a_slice(self):
        whole = skip(3) + chop(4) + head(9) + tail(7) + head(5)
        places = [[], U, S, U + chop(1) + S, head(HUGE) + U, tail(HUGE) + S, head(HUGE) + U + chop(1) + S]
        for before in places:
            for after in ([], R):
                for left_out in range(6):
                    for turned in (1, -1):
                        sizes = whole[2:] if turned == 1 else tail(9) + head(7) + tail(5)
                        part = (whole[:2] + sizes)[:5 - left_out]
                        for start in range(3):
                            self.assert_normal(before + part[start:] + after)
                self.assert_not_normal(
                    before + chop(4) + skip(3) + after,
                    before + skip(1) + skip(2) + after,
                    before + chop(1) + chop(2) + after,
                    before + skip(1) + chop(2) + skip(1) + after,
                    before + skip(0) + after,
                    before + chop(0) + after,
                    before + skip(0) + chop(4) + head(9) + after,
                    before + skip(3) + chop(0) + head(9) + after,
                    before + head(9) + skip(3) + after,
                    before + tail(9) + chop(3) + after,
                    before + skip(3) + head(9) + chop(4) + after,
                    before + head(9) + head(7) + after,
                    before + tail(9) + tail(7) + after,
                    before + head(9) + tail(9) + after,
                    before + tail(9) + head(9) + after,
                    before + head(7) + tail(9) + after,
                    before + head(9) + tail(7) + head(7) + after,
                    before + head(9) + tail(7) + head(8) + after,
                    before + head(9) + tail(7) + head(9) + after,
                    before + head(9) + tail(7) + tail(5) + after,
                    before + head(9) + tail(0) + after,
                    before + tail(9) + head(0) + after,
                )

    def test_sizes_one_more_or_less(self):
        for first, second in ((head, tail), (tail, head)):
            self.assert_normal(first(HUGE) + second(HUGE - 1), first(2) + second(1), first(3) + second(2) + first(1))
            self.assert_not_normal(first(HUGE) + second(HUGE), first(HUGE - 1) + second(HUGE), first(1) + second(1))

    def test_order_and_number_of_the_parts(self):
        cut = skip(1)
        self.assert_normal(cut, cut + U, U + cut, cut + U + cut, cut + S, S + cut, cut + S + cut)
        self.assert_normal(U + cut + S, cut + U + cut + S, U + cut + S + cut, cut + U + cut + S + cut)
        self.assert_not_normal(
            U + U, S + S, R + R, S + U, U + cut + U, S + cut + S, S + cut + U, cut + S + cut + U + cut,
            U + cut + S + cut + S, U + cut + S + cut + U, U + cut + U + cut + S,
            R + cut, R + U, R + S, cut + R + cut, U + R + cut, S + R + cut, cut + R + U, cut + R + S,
            U + cut + R + S, U + R + cut + S, cut + U + R + R, cut + S + cut + R + R, R + cut + R,
        )

    def test_reverse_at_the_end_of_each_shape(self):
        for before in ([], skip(1), head(2)):
            for rest in ([], U, S, head(HUGE) + U, head(HUGE) + S, head(HUGE) + U + chop(1) + S):
                if before != head(2) or rest[:1] in ([], U, S):
                    self.assert_normal(before + rest, before + rest + R)

    def test_capacity_before_uniq_and_sort(self):
        for mark in (U, S):
            for keep in (head, tail):
                self.assert_normal(mark, keep(2) + mark, keep(HUGE) + mark, skip(5) + keep(2) + mark)
                self.assert_not_normal(keep(1) + mark, skip(5) + chop(1) + keep(1) + mark)
                self.assert_not_normal(keep(1) + mark + R)
            self.assert_normal(head(3) + tail(2) + mark, skip(HUGE) + mark, skip(HUGE) + chop(HUGE) + mark)
            self.assert_not_normal(head(3) + tail(1) + mark, head(HUGE) + tail(2) + head(1) + mark)

    def test_capacity_before_sort_behind_uniq(self):
        self.assert_normal(
            U + head(2) + S, U + skip(3) + tail(2) + S, U + skip(HUGE) + S,
            head(3) + U + skip(1) + S, head(HUGE) + U + skip(HUGE - 2) + S, tail(5) + U + skip(2) + chop(1) + S,
            head(3) + U + tail(2) + S,
        )
        self.assert_not_normal(
            U + skip(3) + tail(1) + S, U + head(2) + tail(1) + S, head(2) + U + skip(1) + S,
            head(HUGE) + U + skip(HUGE - 1) + S, tail(5) + U + skip(2) + chop(2) + S,
            head(2) + U + skip(1) + S + R,
        )

    def test_capacity_before_reverse(self):
        self.assert_normal(R, head(2) + R, tail(2) + R, skip(HUGE) + chop(HUGE) + R, U + R, S + R)
        self.assert_not_normal(head(1) + R, tail(1) + R, skip(2) + head(2) + tail(1) + R)
        for mark in (U, S):
            self.assert_normal(mark + head(2) + R, mark + skip(4) + tail(2) + R, head(3) + mark + skip(1) + R)
            self.assert_normal(mark + skip(1) + head(1), head(3) + mark + skip(1) + chop(1), head(2) + mark + R)
            self.assert_not_normal(mark + skip(1) + head(1) + R, head(3) + mark + skip(1) + chop(1) + R)
            self.assert_not_normal(mark + head(2) + tail(1) + R, head(2) + mark + chop(1) + R)
            self.assert_normal(head(HUGE) + mark + skip(HUGE - 2) + R)
            self.assert_not_normal(head(HUGE) + mark + skip(HUGE - 1) + R)
        self.assert_normal(U + head(3) + S + skip(1) + R)
        self.assert_not_normal(U + head(3) + S + skip(2) + R, U + head(3) + S + head(1) + R)

    def test_skip_and_chop_less_than_the_capacity_before(self):
        for before in (head(5) + U, tail(5) + S, head(8) + tail(5) + S, U + head(5) + S, head(9) + U + tail(5) + S,
                       head(9) + U + skip(1) + chop(3) + S):
            self.assert_normal(before + skip(4), before + chop(4), before + skip(1) + chop(3), before + skip(3) + chop(1))
            self.assert_not_normal(before + skip(5), before + chop(5), before + skip(1) + chop(4), before + skip(HUGE))
            self.assert_not_normal(before + skip(4) + chop(1), before + skip(3) + chop(3), before + chop(HUGE))
        for before in (U, S, skip(1) + U, chop(2) + S, U + skip(2) + S):
            self.assert_normal(before + skip(HUGE) + chop(HUGE), before + chop(HUGE) + tail(HUGE))

    def test_sizes_less_than_what_is_left(self):
        for before in (head(5) + U, tail(5) + S, U + head(5) + S, head(9) + U + tail(5) + S):
            for keep, other in ((head, tail), (tail, head)):
                self.assert_normal(before + keep(4), before + keep(2), before + skip(1) + keep(3))
                self.assert_normal(before + skip(1) + chop(1) + keep(2), before + skip(2) + chop(1) + keep(1))
                self.assert_normal(before + keep(4) + other(3) + keep(2))
                self.assert_not_normal(before + keep(5), before + keep(6), before + keep(HUGE))
                self.assert_not_normal(before + skip(1) + keep(4), before + chop(1) + keep(4))
                self.assert_not_normal(before + skip(1) + chop(1) + keep(3), before + skip(2) + chop(2) + keep(1))
                self.assert_not_normal(before + keep(5) + other(3), before + skip(1) + keep(4) + other(3))

    def test_a_single_line_behind_uniq(self):
        for before in ([], skip(2), head(3), tail(HUGE)):
            for keep, other in ((head, tail), (tail, head)):
                self.assert_not_normal(before + U + keep(1), before + U + keep(1) + R, before + U + keep(1) + S)
                self.assert_normal(before + S + keep(1), before + U + keep(2), before + U + keep(2) + other(1))
                self.assert_normal(before + U + skip(1) + keep(1), before + U + chop(1) + keep(1))

    def test_uniq_directly_before_sort(self):
        for before in ([], skip(2), head(5)):
            for after in ([], R, head(1), skip(1) + R):
                self.assert_not_normal(before + U + S + after)
                self.assert_normal(before + U + chop(1) + S + after, before + U + head(3) + S + after)
                self.assert_normal(before + S + after)


class Comparisons(unittest.TestCase):
    def test_all_short_pipelines(self):
        for pipeline in all_pipelines(range(4), 3):
            self.assertIs(is_normal(pipeline), satisfies_point_9(pipeline), pipeline)

    def test_longer_pipelines(self):
        random = Random(5)
        for numbers in ([1, 2, 3], [1, 2, 3, 4, 5, 6, 7], [1, 2, HUGE - 3, HUGE - 2, HUGE - 1, HUGE]):
            for _ in range(20000):
                pipeline = random_pipeline(random, numbers, 7)
                self.assertIs(is_normal(pipeline), satisfies_point_9(pipeline), pipeline)


if __name__ == '__main__':
    unittest.main()
