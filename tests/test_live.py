"""`Live`: lines, results and changes while lines are inserted and removed."""

import unittest
from random import Random

from pipeform.errors import InvalidCommand, InvalidIndex
from pipeform.live import Live
from pipeform.normal import normal_form
from tests.model import HUGE, INVALID_ELEMENTS, all_lists, all_pipelines, plain_run, random_lines, random_pipeline

KINDS = 'abcdefghijklmnopqrstuvwxyz'


def changed(result, changes):
    """The result with the changes made one after the other; fails for a change that cannot be made."""
    result = list(result)
    for change in changes:
        name, index = change[:2]
        assert type(change) is tuple and type(index) is int and index >= 0, change
        if name == 'insert':
            assert len(change) == 3 and index <= len(result), change
            result.insert(index, change[2])
        else:
            assert name == 'remove' and len(change) == 2 and index < len(result), change
            del result[index]
    return result


class Checked:
    """A Live object and its lines, with a check of everything after each step."""

    def __init__(self, case, pipeline, lines):
        self.case = case
        self.pipeline = list(pipeline)
        self.kept = list(lines)
        self.live = Live(pipeline, lines)
        self.most = 0
        self.check_state()

    def check_state(self):
        lines, result = self.live.lines(), self.live.result()
        self.case.assertIs(type(lines), list)
        self.case.assertIs(type(result), list)
        self.case.assertEqual(lines, self.kept)
        self.case.assertEqual(result, plain_run(self.pipeline, self.kept), (self.pipeline, self.kept))

    def step(self, method, *arguments):
        old, before = self.live.result(), list(self.kept)
        changes = getattr(self.live, method)(*arguments)
        if method == 'insert':
            self.kept.insert(*arguments)
        else:
            del self.kept[arguments[0]]
        where = (self.pipeline, before, method, arguments)
        self.check_state()
        self.case.assertIs(type(changes), list)
        self.case.assertEqual(changed(old, changes), self.live.result(), where)
        counts = [sum(change[0] == name for change in changes) for name in ('insert', 'remove')]
        self.case.assertLessEqual(max(counts), 8, where)
        self.most = max(self.most, min(counts))

    def drawn_step(self, random, kinds, growing=0.5):
        """Insert or remove a line, often at an end."""
        if not self.kept or random.random() < growing:
            size = len(self.kept)
            self.step('insert', random.choice([0, size, random.randint(0, size)]), random.choice(kinds))
        else:
            last = len(self.kept) - 1
            self.step('remove', random.choice([0, last, random.randint(0, last)]))


class Results(unittest.TestCase):
    def test_the_example(self):
        live = Live([('uniq',)], ['a', 'a'])
        changes = live.insert(1, 'b')
        self.assertEqual([live.result(), live.lines()], [['a', 'b', 'a'], ['a', 'b', 'a']])
        self.assertEqual(changed(['a'], changes), ['a', 'b', 'a'])

    def test_by_hand(self):
        live = Live([('sort',), ('head', 2)], [])
        self.assertEqual((live.lines(), live.result()), ([], []))
        self.assertEqual(live.insert(0, 'b'), [('insert', 0, 'b')])
        self.assertEqual(live.insert(0, 'b'), [])
        self.assertEqual(live.insert(2, 'c'), [('insert', 1, 'c')])
        self.assertEqual(changed(['b', 'c'], live.insert(1, 'a')), ['a', 'b'])
        self.assertEqual(live.lines(), ['b', 'a', 'b', 'c'])
        self.assertEqual(live.remove(0), [])
        self.assertEqual(changed(['a', 'b'], live.remove(0)), ['b', 'c'])
        self.assertEqual(live.remove(1), [('remove', 1)])
        self.assertEqual(live.remove(0), [('remove', 0)])
        self.assertEqual((live.lines(), live.result()), ([], []))

    def test_every_single_change_of_short_lists(self):
        lists = [*all_lists('ab', 3), list('abca'), list('aabba')]
        for pipeline in all_pipelines([0, 1, 2], 2):
            for lines in lists:
                for index in range(len(lines) + 1):
                    Checked(self, pipeline, lines).step('insert', index, 'a')
                for index in range(len(lines)):
                    Checked(self, pipeline, lines).step('remove', index)

    def test_a_hundred_steps(self):
        random = Random(41)
        for _ in range(200):
            lines = random_lines(random)
            kinds = KINDS[:random.choice([1, 2, 3, 5, 26])]
            size = len(lines)
            numbers = [0, 1, 1, 2, 3, 5, size // 2, max(0, size - 1), size, size + 2, size * 2, HUGE]
            checked = Checked(self, random_pipeline(random, numbers), lines)
            growing = random.choice([0.1, 0.5, 0.9])
            for _ in range(100):
                checked.drawn_step(random, kinds, growing)

    def test_steps_at_one_place(self):
        random = Random(42)
        for place in (lambda size: 0, lambda size: size, lambda size: size // 2):
            for _ in range(20):
                lines = random_lines(random)
                checked = Checked(self, random_pipeline(random, [1, 2, 10, 20, 30, 50]), lines)
                for _ in range(50):
                    checked.step('insert', place(len(checked.kept)), random.choice('abc'))
                for _ in range(50):
                    checked.step('remove', min(place(len(checked.kept)), len(checked.kept) - 1))

    def test_emptied_and_filled(self):
        for pipeline in ([], [('uniq',), ('chop', 1)], [('tail', 2), ('sort',), ('reverse',)], [('head', 0)]):
            checked = Checked(self, pipeline, list('abacabad'))
            for _ in range(8):
                checked.step('remove', len(checked.kept) // 2)
            self.assertEqual(checked.live.lines(), [])
            for line in 'abacabad':
                checked.step('insert', 0, line)

    def test_lines_of_all_kinds(self):
        checked = Checked(self, [('sort',), ('reverse',)], ['', ' ', '~' * 20])
        for line in ('', 'insert', '0', 'a b', '~', 'A', 'a'):
            checked.step('insert', 1, line)


class ManyChanges(unittest.TestCase):
    """The shape slice, uniq, slice, sort, slice, with sizes near the number of lines that reach the slices."""

    def drawn_slice(self, random, size):
        commands = []
        for name in ('skip', 'chop'):
            if random.random() < 0.4:
                commands.append((name, random.randint(1, 3)))
        for name in random.choice([['head'], ['tail'], ['head', 'tail'], ['tail', 'head'], []]):
            size = max(1, size - random.randint(0, 3))
            commands.append((name, size))
        return commands

    def test_sizes_near_the_number_of_lines(self):
        random = Random(43)
        for _ in range(500):
            kinds = KINDS[:random.choice([4, 6, 12, 26])]
            lines = [random.choice(kinds) for _ in range(random.randint(5, 60))]
            pipeline = []
            for mark in ([('uniq',)], [('sort',)], random.choice([[], [('reverse',)]])):
                pipeline += self.drawn_slice(random, len(plain_run(pipeline, lines))) + mark
            checked = Checked(self, pipeline, lines)
            for _ in range(12):
                checked.drawn_step(random, kinds)

    def test_several_lines_at_once(self):
        steps = [
            ([('skip', 3), ('chop', 1), ('uniq',), ('skip', 2), ('head', 7), ('sort',), ('tail', 4)],
             'jgllhlkejjackabf', 4),
            ([('chop', 2), ('tail', 12), ('uniq',), ('head', 9), ('sort',), ('tail', 4)], 'biprbbrnqotmp', 5),
            ([('head', 5), ('uniq',), ('skip', 1)], 'aabbb', 4),
            ([('tail', 9), ('uniq',), ('tail', 3), ('sort',), ('reverse',)], 'fedcbaaaaa', 8),
        ]
        most = 0
        for pipeline, lines, index in steps:
            for line in KINDS:
                checked = Checked(self, pipeline, lines)
                checked.step('insert', index, line)
                checked.step('remove', index)
                most = max(most, checked.most)
        self.assertGreaterEqual(most, 2)

    def test_windows_that_move(self):
        random = Random(44)
        for _ in range(150):
            size = random.randint(30, 60)
            lines = [random.choice('abcdefgh') for _ in range(size)]
            pipeline = [('skip', 1), ('head', size), ('tail', size - 2), ('uniq',), ('skip', 1), ('head', size - 10),
                        ('tail', size // 2), ('sort',), ('tail', 6), ('head', 5), ('tail', 4), ('reverse',)]
            checked = Checked(self, pipeline, lines)
            for _ in range(20):
                checked.drawn_step(random, 'abcdefgh')


class Errors(unittest.TestCase):
    def test_the_constructor(self):
        valid = [('head', 2), ('reverse',), ('skip', HUGE)]
        for element in INVALID_ELEMENTS:
            for index in range(4):
                for lines in ([], ['b', 'a']):
                    with self.assertRaises(InvalidCommand) as caught:
                        Live(valid[:index] + [element, ('sort', 1)] + valid[index:], lines)
                    self.assertIs(type(caught.exception), InvalidCommand)
                    self.assertEqual(caught.exception.value, index)

    def assert_no_such_line(self, live, method, index, *line):
        before = live.lines(), live.result()
        with self.assertRaises(InvalidIndex) as caught:
            getattr(live, method)(index, *line)
        self.assertIs(type(caught.exception), InvalidIndex)
        self.assertEqual(caught.exception.value, index)
        self.assertIs(type(caught.exception.value), int)
        self.assertEqual((live.lines(), live.result()), before)

    def test_indexes(self):
        for lines in ([], ['a'], ['b', 'a', 'a'], list('abc') * 20):
            for pipeline in ([], [('uniq',), ('tail', 2)], [('head', 0)]):
                live = Live(pipeline, lines)
                size = len(lines)
                for index in (-1, -2, -size, -size - 1, -HUGE, size + 1, size + 2, HUGE):
                    if index != 0:
                        self.assert_no_such_line(live, 'insert', index, 'z')
                        self.assert_no_such_line(live, 'remove', index)
                self.assert_no_such_line(live, 'remove', size)
                self.assertEqual(live, Live(pipeline, lines))

    def test_indexes_after_changes(self):
        live = Live([('sort',)], ['a'])
        live.insert(1, 'b')
        self.assert_no_such_line(live, 'remove', 2)
        self.assert_no_such_line(live, 'insert', 3, 'c')
        live.insert(2, 'c')
        live.remove(2)
        live.remove(1)
        live.remove(0)
        self.assert_no_such_line(live, 'remove', 0)
        self.assert_no_such_line(live, 'insert', 1, 'c')
        self.assertEqual(live.insert(0, 'c'), [('insert', 0, 'c')])


class Equality(unittest.TestCase):
    def assert_equal(self, first, second, expected):
        self.assertIs(first == second, expected)
        self.assertIs(second == first, expected)
        self.assertIs(first != second, not expected)

    def test_equivalent_pipelines(self):
        for first, second, expected in [
            ([], [], True),
            ([('uniq',), ('sort',)], [('sort',)], True),
            ([('skip', 1), ('skip', 2)], [('skip', 3)], True),
            ([('head', 1), ('uniq',), ('reverse',)], [('uniq',), ('head', 1)], True),
            ([('tail', 0)], [('uniq',), ('head', 0), ('sort',)], True),
            ([('skip', 1), ('uniq',)], [('uniq',), ('skip', 1)], False),
            ([], [('uniq',)], False),
            ([('head', 5)], [('head', 6)], False),
            ([('skip', 3)], [('chop', 3)], False),
        ]:
            for lines in ([], ['a'], ['a', 'b', 'c']):
                self.assert_equal(Live(first, lines), Live(second, list(lines)), expected)

    def test_lines(self):
        for pipeline in ([], [('head', 0)], [('sort',)], [('uniq',), ('head', 1)]):
            for first in all_lists('ab', 3):
                for second in all_lists('ab', 3):
                    self.assert_equal(Live(pipeline, first), Live(pipeline, second), first == second)

    def test_drawn_pipelines(self):
        random = Random(45)
        for _ in range(500):
            pipeline = random_pipeline(random, [0, 1, 2, 3, 9])
            other = random_pipeline(random, [1, 2], 2)
            lines = random_lines(random)
            live = Live(pipeline, lines)
            self.assert_equal(live, Live(normal_form(pipeline), lines), True)
            self.assert_equal(live, Live(other, lines), normal_form(pipeline) == normal_form(other))
            self.assert_equal(live, Live(pipeline, lines + ['z']), False)

    def test_objects_that_change(self):
        first, second = Live([('sort',)], ['a', 'b']), Live([('uniq',), ('sort',)], ['a'])
        self.assert_equal(first, second, False)
        second.insert(1, 'b')
        self.assert_equal(first, second, True)
        first.remove(0)
        self.assert_equal(first, second, False)
        first.insert(1, 'a')
        self.assert_equal(first, second, False)
        self.assert_equal(first, first, True)

    def test_nothing_else_is_equal(self):
        class Anything:
            def __eq__(self, other):
                return True

        live = Live([], ['a'])
        for other in (['a'], ('a',), [], None, True, False, 0, 1, 'a', {}, ([], ['a']), live.result, Live, object()):
            self.assert_equal(live, other, False)
        self.assertIs(live == Anything(), False)
        self.assertIs(live != Anything(), True)


class Arguments(unittest.TestCase):
    def test_by_position_and_by_name(self):
        pipeline, lines = [('uniq',)], ['a', 'a']
        live = Live(pipeline, lines)
        self.assertEqual(Live(pipeline=pipeline, lines=lines), live)
        self.assertEqual(Live(lines=lines, pipeline=pipeline), live)
        self.assertEqual(Live(pipeline, lines=lines), live)
        self.assertEqual((pipeline, lines), ([('uniq',)], ['a', 'a']))

    def test_arguments_are_not_kept(self):
        pipeline, lines = [('uniq',)], ['a', 'a', 'b']
        live = Live(pipeline, lines)
        pipeline[0] = ('head', 0)
        pipeline.append(('sort',))
        lines.insert(0, 'x')
        lines[1] = 'y'
        self.assertEqual((live.lines(), live.result()), (['a', 'a', 'b'], ['a', 'b']))
        self.assertEqual(changed(['a', 'b'], live.insert(3, 'a')), ['a', 'b', 'a'])
        self.assertEqual(live, Live([('uniq',)], ['a', 'a', 'b', 'a']))

    def test_arguments_are_not_changed(self):
        pipeline, lines = [('reverse',), ('reverse',)], ['a', 'b']
        live = Live(pipeline, lines)
        live.insert(0, 'c')
        live.remove(2)
        self.assertEqual((pipeline, lines), ([('reverse',), ('reverse',)], ['a', 'b']))

    def test_returned_lists_are_new(self):
        for pipeline in ([], [('head', 9)], [('uniq',)], [('sort',)], [('reverse',)], [('head', 0)]):
            live = Live(pipeline, ['a', 'b', 'b'])
            expected = live.lines(), live.result()
            for method in (live.lines, live.result):
                self.assertIsNot(method(), method())
                method().append('x')
                returned = method()
                returned[:] = ['x']
                self.assertEqual((live.lines(), live.result()), expected)
            result = live.result()
            changes = live.insert(0, 'c')
            after = live.lines(), live.result()
            changes.append(('remove', 0))
            live.insert(0, 'c').clear()
            live.remove(0).clear()
            self.assertEqual((live.lines(), live.result()), after)
            self.assertEqual(result, expected[1])

    def test_empty_lists_of_changes_are_new(self):
        live = Live([('head', 0)], ['a'])
        first = live.insert(0, 'b')
        first.append('x')
        self.assertEqual(live.insert(0, 'b'), [])
        self.assertEqual(live.remove(0), [])

    def test_objects_of_the_same_lists(self):
        pipeline, lines = [('sort',)], ['b', 'a']
        first, second = Live(pipeline, lines), Live(pipeline, lines)
        third = Live(pipeline, first.lines())
        first.insert(0, 'c')
        first.remove(1)
        self.assertEqual((first.lines(), first.result()), (['c', 'a'], ['a', 'c']))
        for live in (second, third):
            self.assertEqual((live.lines(), live.result()), (['b', 'a'], ['a', 'b']))
        second.remove(0)
        self.assertEqual((third.lines(), lines), (['b', 'a'], ['b', 'a']))
        self.assertEqual((first.lines(), first.result()), (['c', 'a'], ['a', 'c']))

    def test_an_object_made_of_a_returned_list(self):
        live = Live([], ['a'])
        for line in 'bcd':
            lines = live.result()
            other = Live([], lines)
            live.insert(0, line)
            other.remove(0)
            self.assertEqual(live.lines(), [line, *lines])
            self.assertEqual(other.lines(), lines[1:])


if __name__ == '__main__':
    unittest.main()
