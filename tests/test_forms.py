"""Points 7 and 10: `normal_form` and `equivalent`."""

import unittest
from random import Random

from pipeform.normal import equivalent, is_normal, normal_form
from pipeform.running import run, run_on_runs
from tests.model import (
    HUGE, all_commands, all_lists, all_pipelines, plain_command, plain_run, random_lines, random_pipeline,
    satisfies_point_9,
)

LETTERS = 'abcdefghijklmnopqrstuvwxyz'


def telling_lists():
    """All short lists of a few kinds of lines, and longer ones that tell larger numbers apart."""
    random = Random(6)
    lists = list(all_lists('ab', 6)) + list(all_lists('abc', 4))
    for length in range(5, 17):
        distinct = list(LETTERS[:length])
        lists += [distinct, distinct[::-1]]
        for kinds in (2, 3, 4, length, length):
            lists += [[random.choice(LETTERS[:kinds]) for _ in range(length)] for _ in range(6)]
        lists += [random.sample(distinct, length) for _ in range(6)]
    return lists


class Results:
    """Numbers for the tuples of results on the telling lists: equal numbers for equal results."""

    def __init__(self):
        self.numbers = {}
        self.tables = []
        self.steps = {}
        self.start = self.number(telling_lists())

    def number(self, results):
        key = tuple(tuple(lines) for lines in results)
        if key not in self.numbers:
            self.numbers[key] = len(self.tables)
            self.tables.append(key)
        return self.numbers[key]

    def step(self, number, command):
        """The number of the results after one more command, from a plain computation."""
        if (number, command) not in self.steps:
            results = [plain_command(command, lines) for lines in self.tables[number]]
            self.steps[number, command] = self.number(results)
        return self.steps[number, command]

    def of_run(self, pipeline):
        return self.number([run(pipeline, list(lines)) for lines in self.tables[self.start]])


class AllShortPipelines(unittest.TestCase):
    """Every pipeline of few commands with small numbers."""

    def check_all(self, numbers, longest):
        results = Results()
        form_of, number_of = {}, {}
        level = [([], results.start)]
        for length in range(longest + 1):
            longer = []
            for pipeline, number in level:
                self.check_one(pipeline, number, results, form_of, number_of)
                if length < longest:
                    for command in all_commands(numbers):
                        longer.append((pipeline + [command], results.step(number, command)))
            level = longer
        return form_of

    def check_one(self, pipeline, number, results, form_of, number_of):
        form = normal_form(pipeline)
        self.assertLessEqual(len(form), len(pipeline))
        key = tuple(form)
        if key not in number_of:
            self.assertTrue(satisfies_point_9(form), (pipeline, form))
            self.assertIs(is_normal(form), True)
            self.assertEqual(normal_form(form), form)
            number_of[key] = results.of_run(form)
        self.assertEqual(number_of[key], number, ('other results', pipeline, form))
        self.assertEqual(form_of.setdefault(number, key), key, ('several normal forms', pipeline))

    def test_up_to_three_commands(self):
        self.check_all(range(4), 3)

    def test_four_commands(self):
        self.check_all(range(3), 4)

    def test_equivalent_exactly_with_equal_results(self):
        results = Results()
        pipelines = []
        for pipeline in all_pipelines(range(3), 2):
            number = results.start
            for command in pipeline:
                number = results.step(number, command)
            pipelines.append((pipeline, number))
        for first, number in pipelines:
            for second, other in pipelines:
                self.assertIs(equivalent(first, second), number == other, (first, second))


class LongerPipelines(unittest.TestCase):
    def assert_form(self, pipeline, form):
        self.assertTrue(satisfies_point_9(form), (pipeline, form))
        self.assertEqual(normal_form(form), form)
        self.assertLessEqual(len(form), len(pipeline))
        self.assertIs(equivalent(pipeline, form), True)
        self.assertIs(equivalent(form, pipeline), True)

    def test_small_numbers(self):
        random = Random(7)
        for _ in range(4000):
            pipeline = random_pipeline(random, [0, 1, 1, 2, 2, 3, 4, 5, 9, 15, 30])
            form = normal_form(pipeline)
            self.assert_form(pipeline, form)
            for _ in range(8):
                lines = random_lines(random, 40)
                self.assertEqual(plain_run(form, lines), plain_run(pipeline, lines), (pipeline, lines))

    def test_parts_may_be_replaced_by_their_normal_forms(self):
        random = Random(8)
        for _ in range(2000):
            pipeline = random_pipeline(random, [0, 1, 1, 2, 2, 3, 4, 5, 9])
            cut = random.randint(0, len(pipeline))
            parts = normal_form(pipeline[:cut]) + normal_form(pipeline[cut:])
            self.assertEqual(normal_form(parts), normal_form(pipeline), pipeline)

    def test_equivalent_pairs_and_others(self):
        random = Random(9)
        lists = telling_lists()
        seen = {True: 0, False: 0}
        for _ in range(1500):
            first = random_pipeline(random, [1, 2, 3], 5)
            second = list(first)
            if second and random.random() < 0.9:
                at = random.randrange(len(second))
                second[at:at + 1] = random_pipeline(random, [1, 2, 3], 2)
            same = all(plain_run(first, lines) == plain_run(second, lines) for lines in lists)
            seen[same] += 1
            self.assertIs(equivalent(first, second), same, (first, second))
        self.assertGreater(min(seen.values()), 100)

    def test_huge_numbers(self):
        random = Random(10)
        for _ in range(4000):
            close = random.randint(10, HUGE)
            numbers = [1, 2, HUGE, HUGE - 1, HUGE - 2, HUGE // 2, close, close - 1, close - 9]
            pipeline = random_pipeline(random, numbers)
            form = normal_form(pipeline)
            self.assert_form(pipeline, form)
            for _ in range(4):
                counts = [1, 2, HUGE, HUGE - 1, close, random.randint(1, HUGE)]
                runs = [(random.choice('abc'), random.choice(counts)) for _ in range(random.randint(0, 9))]
                self.assertEqual(run_on_runs(form, runs), run_on_runs(pipeline, runs), (pipeline, runs))


class Examples(unittest.TestCase):
    def assert_forms(self, pairs):
        for pipeline, form in pairs:
            self.assertEqual(normal_form(pipeline), form, pipeline)

    def test_the_examples(self):
        self.assert_forms([
            ([('head', 10), ('skip', 2), ('reverse',), ('tail', 8), ('reverse',)], [('skip', 2), ('head', 8)]),
            ([('uniq',), ('sort',), ('uniq',), ('reverse',), ('head', 1)], [('sort',), ('tail', 1)]),
            ([('uniq',), ('head', 1)], [('head', 1)]),
        ])
        self.assertIs(equivalent([('uniq',), ('sort',)], [('sort',)]), True)
        self.assertIs(equivalent([('skip', 1), ('uniq',)], [('uniq',), ('skip', 1)]), False)

    def test_slices_with_huge_numbers(self):
        self.assert_forms([
            ([('skip', HUGE), ('skip', HUGE)], [('skip', 2 * HUGE)]),
            ([('chop', HUGE), ('skip', 1), ('chop', 1)], [('skip', 1), ('chop', HUGE + 1)]),
            ([('head', HUGE), ('skip', HUGE)], [('head', 0)]),
            ([('head', HUGE), ('skip', HUGE - 1)], [('skip', HUGE - 1), ('head', 1)]),
            ([('head', HUGE), ('tail', HUGE - 1), ('chop', 5)], [('chop', 5), ('head', HUGE - 5), ('tail', HUGE - 6)]),
            ([('head', HUGE), ('tail', HUGE)], [('head', HUGE)]),
            ([('tail', HUGE - 1), ('tail', HUGE)], [('tail', HUGE - 1)]),
            ([('tail', HUGE), ('head', 5), ('tail', 3), ('head', 4)], [('tail', HUGE), ('head', 5), ('tail', 3)]),
        ])

    def test_reverse(self):
        self.assert_forms([
            ([('reverse',), ('reverse',)], []),
            ([('reverse',), ('skip', 2)], [('chop', 2), ('reverse',)]),
            ([('reverse',), ('head', 2), ('uniq',)], [('tail', 2), ('uniq',), ('reverse',)]),
            ([('reverse',), ('head', 2), ('sort',), ('tail', 1)], [('tail', 2), ('sort',), ('tail', 1)]),
            ([('reverse',), ('head', 1)], [('tail', 1)]),
            ([('sort',), ('reverse',), ('sort',)], [('sort',)]),
            ([('sort',), ('reverse',), ('uniq',), ('head', 3)], [('sort',), ('tail', 3), ('reverse',)]),
            ([('head', 1), ('reverse',), ('chop', 1)], [('head', 0)]),
        ])

    def test_capacities(self):
        self.assert_forms([
            ([('head', 3), ('uniq',), ('skip', 2), ('sort',), ('reverse',)], [('head', 3), ('uniq',), ('skip', 2)]),
            ([('head', 3), ('uniq',), ('skip', 3)], [('head', 0)]),
            ([('head', 3), ('uniq',), ('skip', 1), ('tail', 2)], [('head', 3), ('uniq',), ('skip', 1)]),
            ([('head', 2), ('sort',), ('uniq',), ('chop', 1)], [('head', 2), ('sort',), ('chop', 1)]),
            ([('uniq',), ('head', 2), ('sort',), ('head', 2)], [('uniq',), ('head', 2), ('sort',)]),
            ([('head', 2), ('uniq',), ('head', 2), ('sort',)], [('head', 2), ('sort',)]),
            ([('uniq',), ('tail', 5), ('tail', 1), ('sort',)], [('tail', 1)]),
            ([('tail', 9), ('uniq',), ('head', 1)], [('tail', 9), ('head', 1)]),
            ([('head', 9), ('uniq',), ('head', 1), ('skip', 1)], [('head', 0)]),
            ([('uniq',), ('skip', 1), ('uniq',), ('sort',)], [('uniq',), ('skip', 1), ('sort',)]),
        ])

    def test_equivalent_with_huge_numbers(self):
        pairs = [
            ([('head', HUGE)], [], False),
            ([('head', HUGE)], [('head', HUGE - 1)], False),
            ([('head', HUGE)], [('tail', HUGE)], False),
            ([('skip', HUGE), ('chop', 1)], [('chop', 1), ('skip', HUGE)], True),
            ([('skip', HUGE), ('skip', 1)], [('skip', 1), ('skip', HUGE)], True),
            ([('skip', HUGE)], [('skip', HUGE), ('skip', 1)], False),
            ([('head', HUGE), ('uniq',), ('skip', HUGE)], [('tail', 0)], True),
            ([('head', HUGE), ('uniq',), ('skip', HUGE - 1)], [('tail', 0)], False),
            ([('head', HUGE), ('sort',), ('head', HUGE)], [('head', HUGE), ('sort',)], True),
            ([('head', HUGE), ('sort',), ('head', HUGE - 1)], [('head', HUGE), ('sort',)], False),
        ]
        for first, second, expected in pairs:
            self.assertIs(equivalent(first, second), expected, (first, second))
            self.assertIs(equivalent(second, first), expected, (second, first))


if __name__ == '__main__':
    unittest.main()
