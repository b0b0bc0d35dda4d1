"""`show_pipeline`, and that `read_pipeline` reads what it writes."""

import unittest
from random import Random

from pipeform.normal import normal_form
from pipeform.powers import power
from pipeform.readings import read_pipeline
from pipeform.texts import show_pipeline
from tests.model import HUGE, SLICING, all_pipelines, random_pipeline

THIRTY = 10 ** 29


def plain_text(pipeline):
    """The text of a pipeline, sign by sign."""
    text = ''
    for command in pipeline:
        text += ' | ' if text else ''
        text += command[0]
        if len(command) == 2:
            text += ' '
            text += '%d' % command[1]
    return text or '-'


def numbers(random):
    return [0, 1, 9, 10, 11, 100, 10 ** 18, 2 ** 64, THIRTY - 1, THIRTY, HUGE, HUGE - 1, random.randint(0, HUGE),
            random.randint(0, 10 ** random.randint(1, 30) - 1)]


class Texts(unittest.TestCase):
    def assert_there_and_back(self, pipeline):
        text = show_pipeline(pipeline)
        self.assertIs(type(text), str)
        self.assertEqual(text, plain_text(pipeline))
        again = read_pipeline(text)
        self.assertEqual(again, pipeline)
        self.assertIs(type(again), list)
        for command in again:
            self.assertIs(type(command), tuple)
            self.assertIs(type(command[0]), str)
            self.assertTrue(all(type(number) is int for number in command[1:]))
        return text

    def test_the_example(self):
        self.assertEqual(show_pipeline([('skip', 2), ('uniq',), ('head', 10)]), 'skip 2 | uniq | head 10')
        self.assertEqual(read_pipeline('skip 2 | uniq | head 10'), [('skip', 2), ('uniq',), ('head', 10)])

    def test_by_hand(self):
        for pipeline, text in [
            ([], '-'),
            ([('reverse',)], 'reverse'),
            ([('uniq',)], 'uniq'),
            ([('sort',)], 'sort'),
            ([('head', 0)], 'head 0'),
            ([('tail', 7)], 'tail 7'),
            ([('skip', 10 ** 29)], 'skip 1' + '0' * 29),
            ([('chop', HUGE)], 'chop ' + '9' * 30),
            ([('sort',), ('sort',)], 'sort | sort'),
            ([('head', 0), ('head', 0), ('reverse',)], 'head 0 | head 0 | reverse'),
        ]:
            self.assertEqual(show_pipeline(pipeline), text)
            self.assertEqual(read_pipeline(text), pipeline)

    def test_all_short_pipelines(self):
        texts = [self.assert_there_and_back(pipeline) for pipeline in all_pipelines([0, 1, 2, 10, HUGE], 2)]
        self.assertEqual(len(set(texts)), len(texts))

    def test_up_to_twelve_commands(self):
        random = Random(71)
        pipelines = {tuple(random_pipeline(random, numbers(random))) for _ in range(3000)}
        texts = {self.assert_there_and_back(list(pipeline)) for pipeline in sorted(pipelines)}
        self.assertEqual(len(texts), len(pipelines))

    def test_numbers_of_every_length(self):
        for digits in range(1, 31):
            for number in (10 ** digits - 1, 10 ** (digits - 1), 10 ** digits // 3):
                for name in SLICING:
                    self.assertEqual(self.assert_there_and_back([(name, number)]), f'{name} {number}')

    def test_long_pipelines(self):
        random = Random(72)
        for length in (13, 100, 250, 500, 1000):
            for _ in range(5):
                pipeline = [command for _ in range(length) for command in random_pipeline(random, numbers(random), 1)]
                self.assert_there_and_back(pipeline)
        for pipeline in ([('sort',)] * 571, [('head', HUGE)] * 105, [('skip', 0)] * 444, [('reverse',), ('uniq',)] * 235):
            text = self.assert_there_and_back(pipeline)
            self.assertGreater(len(text), 3900)
        sizes = [(('head', 'tail')[size & 1], size) for size in range(400, 0, -1)]
        self.assert_there_and_back(normal_form(sizes))

    def test_joined_texts(self):
        random = Random(73)
        for _ in range(1500):
            first, second = random_pipeline(random, numbers(random), 6), random_pipeline(random, numbers(random), 6)
            if first and second:
                joined = show_pipeline(first) + ' | ' + show_pipeline(second)
                self.assertEqual(show_pipeline(first + second), joined)
                self.assertEqual(read_pipeline(joined), first + second)
            else:
                whole = first or second
                self.assertEqual(show_pipeline(first + second), show_pipeline(whole))

    def test_commands_in_a_text_of_their_own(self):
        random = Random(74)
        for _ in range(500):
            pipeline = random_pipeline(random, numbers(random))
            parts = [show_pipeline([command]) for command in pipeline]
            self.assertEqual(show_pipeline(pipeline), ' | '.join(parts) or '-')
            for part, command in zip(parts, pipeline):
                self.assertEqual(read_pipeline(part), [command])

    def test_numbers_of_more_than_thirty_digits(self):
        for number in (10 ** 30, 10 ** 59, 10 ** 60 - 1, 10 ** 60, 10 ** 60 + 1, 10 ** 119 + 7, 10 ** 120 - 1,
                       10 ** 120, 10 ** 180 + 10 ** 60, HUGE ** 100, 7 ** 1000):
            for name in SLICING:
                self.assertEqual(show_pipeline([(name, number), ('uniq',)]), f'{name} {number} | uniq')

    def test_powers_of_powers(self):
        pipeline = [('uniq',), ('skip', 1)]
        for _ in range(170):
            pipeline = power(pipeline, 10 ** 29)
        # Python itself refuses to write out this number.
        self.assertEqual(show_pipeline(pipeline), 'uniq | skip 1' + '0' * (170 * 29))


class Arguments(unittest.TestCase):
    def test_by_position_and_by_name(self):
        self.assertEqual(show_pipeline(pipeline=[('sort',)]), 'sort')
        self.assertEqual(read_pipeline(text='sort'), [('sort',)])

    def test_a_pipeline_is_not_changed(self):
        for pipeline in all_pipelines([0, 3], 2):
            before = list(pipeline)
            show_pipeline(pipeline)
            self.assertEqual(pipeline, before)

    def test_a_pipeline_is_not_kept(self):
        pipeline = [('sort',), ('head', 2)]
        self.assertEqual(show_pipeline(pipeline), 'sort | head 2')
        pipeline.append(('uniq',))
        pipeline[1] = ('head', 3)
        self.assertEqual(show_pipeline(pipeline), 'sort | head 3 | uniq')
        pipeline.clear()
        self.assertEqual(show_pipeline(pipeline), '-')

    def test_a_pipeline_that_is_read_is_new(self):
        for text in ('-', 'sort', 'skip 2 | uniq | head 10'):
            first, second = read_pipeline(text), read_pipeline(text)
            self.assertEqual(first, second)
            self.assertIsNot(first, second)
            first.append(('reverse',))
            first[0] = ('head', 0)
            self.assertEqual(read_pipeline(text), second)
            self.assertEqual(show_pipeline(second), text)

    def test_the_same_call_again_gives_the_same(self):
        random = Random(75)
        for _ in range(300):
            pipeline = random_pipeline(random, numbers(random))
            text = show_pipeline(pipeline)
            self.assertEqual(show_pipeline(pipeline), text)
            self.assertEqual(read_pipeline(text), read_pipeline(text))


if __name__ == '__main__':
    unittest.main()
