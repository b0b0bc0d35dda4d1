"""What holds between the parts of the program."""

import unittest
from random import Random

from pipeform.counting import count_inputs
from pipeform.live import Live
from pipeform.normal import equivalent, is_normal, normal_form
from pipeform.parting import parting_lines
from pipeform.powers import power
from pipeform.readings import read_pipeline
from pipeform.running import run, run_on_runs
from pipeform.texts import show_pipeline
from tests.model import HUGE, all_commands, plain_run, random_lines, random_pipeline, satisfies_point_9, written_out

MANY = 10 ** 29
NUMBERS = [0, 1, 1, 2, 2, 3, 5, 9, 20, 40]
LARGE = [1, 2, 3, HUGE, HUGE - 1, HUGE - 2, MANY, MANY - 1]
RUNS = [('b', HUGE), ('a', 2), ('c', MANY), ('a', 1), ('d', HUGE - 7)]


def drawn_runs(random):
    counts = [1, 2, 3, MANY, HUGE, random.randint(1, HUGE)]
    return [(random.choice('abc'), random.choice(counts)) for _ in range(random.randint(0, 9))]


def rewritten(random, pipeline):
    """An equivalent pipeline, with commands put in that have no effect where they stand."""
    result = []
    for command in pipeline:
        result += random.choice([[], [], [('reverse',), ('reverse',)], [('skip', 0)], [('chop', 0)]])
        if command == ('sort',):
            result += random.choice([[], [('reverse',)], [('uniq',)], [('sort',)]])
        if command[0] == 'skip' and command[1] > 1:
            result.append(('skip', 1))
            command = ('skip', command[1] - 1)
        result.append(command)
        if command[0] in ('head', 'tail', 'uniq'):
            result += random.choice([[], [command]])
        if command == ('sort',):
            result += random.choice([[], [('uniq',)], [('reverse',), ('sort',)]])
    return result


class ReadPipelines(unittest.TestCase):
    def test_the_same_results(self):
        random = Random(91)
        for _ in range(1500):
            pipeline = random_pipeline(random, random.choice([NUMBERS, LARGE]))
            again = read_pipeline(show_pipeline(pipeline))
            lines, runs = random_lines(random), drawn_runs(random)
            self.assertEqual(run(again, lines), run(pipeline, lines))
            self.assertEqual(run_on_runs(again, runs), run_on_runs(pipeline, runs))
            self.assertEqual(normal_form(again), normal_form(pipeline))
            self.assertEqual(power(again, 3), power(pipeline, 3))
            self.assertIs(is_normal(again), is_normal(pipeline))
            self.assertIs(equivalent(again, pipeline), True)
            self.assertEqual(Live(again, lines), Live(pipeline, lines))

    def test_texts_of_normal_forms(self):
        random = Random(92)
        for _ in range(1500):
            pipeline = random_pipeline(random, NUMBERS)
            other = random.choice([rewritten(random, pipeline), random_pipeline(random, [1, 2], 2)])
            texts = [show_pipeline(normal_form(each)) for each in (pipeline, other)]
            self.assertIs(texts[0] == texts[1], equivalent(pipeline, other))
            self.assertIs(is_normal(read_pipeline(texts[0])), True)

    def test_parting_lines_and_counts(self):
        random = Random(93)
        for _ in range(300):
            first, second = random_pipeline(random, range(5), 5), random_pipeline(random, range(5), 5)
            again = read_pipeline(show_pipeline(first))
            self.assertIsNone(parting_lines(first, again))
            lines = parting_lines(again, second)
            if lines is not None:
                self.assertNotEqual(run(first, lines), run(second, lines))
            for result in ([], ['a'], ['b', 'a'], ['a', 'b']):
                self.assertEqual(count_inputs(again, result, 4, 3), count_inputs(first, result, 4, 3))


class Powers(unittest.TestCase):
    def drawn(self, random):
        return random_pipeline(random, random.choice([NUMBERS, LARGE]), 12)

    def test_the_power_of_a_sum(self):
        random = Random(94)
        for _ in range(600):
            pipeline = self.drawn(random)
            first = random.choice([0, 1, 2, 3, 7, MANY, HUGE, random.randint(0, HUGE)])
            second = random.choice([0, 1, 2, 5, MANY - 1, random.randint(0, HUGE)])
            whole = power(pipeline, first + second)
            parts = power(pipeline, first), power(pipeline, second)
            self.assertEqual(whole, normal_form(parts[0] + parts[1]), (pipeline, first, second))
            self.assertEqual(whole, normal_form(parts[1] + parts[0]), (pipeline, first, second))

    def test_the_power_of_a_product(self):
        random = Random(95)
        for _ in range(600):
            pipeline = self.drawn(random)
            first = random.choice([0, 1, 2, 3, 7, 10 ** 15, random.randint(0, 10 ** 15)])
            second = random.choice([0, 1, 2, 5, 10 ** 14, random.randint(0, 10 ** 15)])
            whole = power(pipeline, first * second)
            self.assertEqual(whole, power(power(pipeline, first), second), (pipeline, first, second))
            self.assertEqual(whole, power(power(pipeline, second), first), (pipeline, first, second))

    def test_equivalent_pipelines_have_equal_powers(self):
        random = Random(96)
        for _ in range(600):
            pipeline = self.drawn(random)
            other = rewritten(random, pipeline)
            self.assertIs(equivalent(pipeline, other), True, (pipeline, other))
            for times in (0, 1, 2, 5, MANY, random.randint(0, HUGE)):
                self.assertEqual(power(pipeline, times), power(other, times), (pipeline, other, times))


class LargeNumbers(unittest.TestCase):
    """Pipelines with numbers of more than thirty digits, which `power` returned."""

    def pipelines(self):
        found = []
        for pipeline in ([('skip', HUGE)], [('uniq',), ('chop', 3), ('skip', HUGE)], [('sort',), ('reverse',), ('chop', 9)],
                         [('skip', 2), ('uniq',), ('skip', 7), ('sort',), ('chop', HUGE)]):
            for times in (MANY, HUGE):
                found.append(power(power(pipeline, times), HUGE))
        found.append(power([('head', 10 ** 60), ('tail', 10 ** 59), ('reverse',)], HUGE))
        return found

    def test_they_are_accepted(self):
        lines = list('bbacab')
        for pipeline in self.pipelines():
            self.assertGreaterEqual(max(command[-1] for command in pipeline if len(command) == 2), 10 ** 30)
            result = plain_run(pipeline, lines)
            self.assertEqual(run(pipeline, lines), result)
            expected = plain_run(pipeline, written_out([('b', 2), ('a', 1)]))
            self.assertEqual(written_out(run_on_runs(pipeline, [('b', 2), ('a', 1)])), expected)
            self.assertEqual(normal_form(pipeline), pipeline)
            self.assertTrue(satisfies_point_9(pipeline))
            self.assertIs(is_normal(pipeline), True)
            self.assertIs(equivalent(pipeline, list(pipeline)), True)
            self.assertIs(equivalent(pipeline, []), False)
            self.assertIsNone(parting_lines(pipeline, list(pipeline)))
            self.assertEqual(power(pipeline, 1), pipeline)
            self.assertEqual(power(pipeline, 2), normal_form(pipeline + pipeline))
            self.assertEqual(show_pipeline(pipeline), ' | '.join(' '.join(map(str, command)) for command in pipeline))
            live = Live(pipeline, lines)
            live.insert(0, 'd')
            live.remove(0)
            self.assertEqual((live.lines(), live.result()), (lines, result))
            self.assertGreaterEqual(count_inputs(pipeline, plain_run(pipeline, list('abba')), 4, 2), 1)

    def test_commands_behind_them(self):
        for pipeline in self.pipelines():
            for command in all_commands([0, 1, HUGE]):
                longer = normal_form(pipeline + [command])
                self.assertTrue(satisfies_point_9(longer), (pipeline, command))
                self.assertEqual(run_on_runs(longer, RUNS), run_on_runs([command], run_on_runs(pipeline, RUNS)))


class Results(unittest.TestCase):
    def test_all_ways_to_a_result(self):
        random = Random(97)
        for _ in range(1500):
            pipeline = random_pipeline(random, NUMBERS)
            lines = [random.choice('abcd') for _ in range(random.randint(0, 6))]
            result = plain_run(pipeline, lines)
            form = normal_form(pipeline)
            self.assertEqual(run(pipeline, lines), result)
            self.assertEqual(run(form, lines), result)
            self.assertEqual(written_out(run_on_runs(pipeline, [(line, 1) for line in lines])), result)
            self.assertEqual(run(power(pipeline, 2), lines), plain_run(pipeline, result))
            live = Live(form, [])
            for line in lines[::-1]:
                live.insert(0, line)
            self.assertEqual(live.result(), result)
            self.assertEqual(live, Live(pipeline, lines))
            counted = count_inputs(pipeline, result, len(lines), 4)
            self.assertGreaterEqual(counted, 1)
            self.assertEqual(counted, count_inputs(form, result, len(lines), 4))


if __name__ == '__main__':
    unittest.main()
