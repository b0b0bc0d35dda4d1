"""`read_pipeline`: which texts are those of pipelines."""

import re
import unittest
from random import Random

from pipeform.errors import Unreadable
from pipeform.readings import read_pipeline
from pipeform.texts import show_pipeline
from tests.model import HUGE, SLICING, random_pipeline

COMMAND = '(?:reverse|uniq|sort|(?:head|tail|skip|chop) (?:0|[1-9][0-9]{0,29}))'
PIPELINE = re.compile(f'-|{COMMAND}(?: [|] {COMMAND})*')
PLAIN = ('reverse', 'uniq', 'sort')
VALID = ['sort', 'head 1', 'skip 2 | uniq | head 10', 'reverse | tail 0', f'chop {HUGE} | sort | reverse', '-',
         'uniq | skip 120 | sort | chop 3 | tail 40 | reverse']
SIGNS = [chr(code) for code in range(32, 127)] + ['\n', '\t', '\r', '\0', '\u00a0', '\u0663', '\u00b2', '\uff11', '\u2502']


class Readings(unittest.TestCase):
    def assert_unreadable(self, *texts):
        for text in texts:
            self.assertIsNone(PIPELINE.fullmatch(text), text)
            with self.assertRaises(Unreadable, msg=repr(text)) as caught:
                read_pipeline(text)
            self.assertIs(type(caught.exception), Unreadable)
            self.assertEqual(caught.exception.value, text)
            self.assertIs(type(caught.exception.value), str)

    def check(self, text):
        """Compare a text with the pattern: exactly the texts of pipelines are read. Return whether it is one."""
        if PIPELINE.fullmatch(text):
            self.assertEqual(show_pipeline(read_pipeline(text)), text)
            return True
        self.assert_unreadable(text)
        return False


class ByHand(Readings):
    def test_the_example(self):
        self.assert_unreadable('head 01')

    def test_the_pattern(self):
        for text in VALID:
            self.assertTrue(self.check(text))

    def test_words_that_are_no_command(self):
        for word in ('cat', 'Head', 'HEAD', 'heads', 'hea', 'revers', 'reversed', 'Uniq', 'SORT', 'sorts', 'lines', '|',
                     'head1', 'sort1', 'None', '1', '0', 'head,', '(sort)', "'sort'", 'h ead', 'so rt', 'r', '--', '_'):
            self.assert_unreadable(word, word + ' 1', f'sort | {word}', f'{word} | sort', f'head 1 | {word} 2 | uniq')

    def test_a_number_is_missing_or_too_many(self):
        for name in SLICING:
            self.assert_unreadable(name, f'{name} ', f'sort | {name}', f'{name} | sort', f'{name} 1 2', f'{name} 1 1',
                                   f'{name} {name}', f'{name} 1 {name} 1', f'{name} |', f'{name} | 1')
        for name in PLAIN:
            self.assert_unreadable(f'{name} 0', f'{name} 1', f'sort | {name} 2', f'{name} 2 | sort', f'{name} {name}',
                                   f'{name} -', f'{name} 1 1')
        self.assert_unreadable('1', '0', '1 head', '1 | head', 'head 1 | 2', 'head 1 | 2 | sort', '7 | 8', '1 sort')

    def test_numbers_of_another_form(self):
        for number in ('00', '01', '007', '0' * 30, '0' * 31, '+1', '-1', '+0', '-0', '--1', '1.0', '1.', '.5', '1e3',
                       '1_000', '1,000', '0x1', '0b1', '0o7', 'a', '1a', 'a1', '1-', '1+', '!', 'one', '1 000', '*'):
            for name in SLICING:
                self.assert_unreadable(f'{name} {number}', f'sort | {name} {number}', f'{name} {number} | sort')

    def test_other_digits(self):
        for digit in '\u0660\u0663\u06f1\u0967\uff10\uff11\u00b2\u00b9\u2460\u2160\u4e00\u00bd\U0001d7d9':
            for name in SLICING:
                self.assert_unreadable(f'{name} {digit}', f'{name} 1{digit}', f'{name} {digit}1', f'sort | {name} {digit}')

    def test_numbers_of_more_than_thirty_digits(self):
        for name in SLICING:
            for number in (10 ** 30, 10 ** 30 + 1, 10 ** 31 - 1, 10 ** 59, 10 ** 60, 10 ** 300):
                self.assert_unreadable(f'{name} {number}', f'uniq | {name} {number}', f'{name} {number} | uniq')
            self.assert_unreadable(f'{name} ' + '9' * 3990, f'{name} ' + '9' * 9000)
            for number in (HUGE, 10 ** 29):
                self.assertEqual(read_pipeline(f'{name} {number}'), [(name, number)])

    def test_separators(self):
        for between in ('|', ' |', '| ', '  |  ', ' |  ', '  | ', ' || ', ' | | ', ' |\n', '\n', '\n|\n', ' ', ', ', '; ',
                        ' & ', ' / ', ' ! ', '\t|\t', '\u00a0|\u00a0', ' \u2502 ', '', ' | - | ', ' |  | ', '  ', ' I '):
            for first in ('sort', 'head 1'):
                for second in ('uniq', 'tail 2'):
                    self.assert_unreadable(first + between + second, f'{first} | {first}{between}{second} | {second}')

    def test_at_the_ends(self):
        for text in VALID:
            for extra in (' ', '  ', '\n', '\r\n', '\r', '\t', '|', ' |', ' | ', '| ', '\0', '\u00a0', '\ufeff', '\f', '\v'):
                self.assert_unreadable(text + extra, extra + text, extra + text + extra)

    def test_inside_a_command(self):
        for blank in ('  ', '\t', '\n', '\u00a0', ' \t', '', '|', ' |', '_', ' - '):
            for name in SLICING:
                self.assert_unreadable(f'{name}{blank}3', f'sort | {name}{blank}3 | sort')

    def test_no_words(self):
        self.assert_unreadable('', ' ', '  ', '\n', '|', ' |', '| ', ' | ', '||', ' |  | ', ' | | ', '\0', '0', '\u2013')

    def test_the_sign_of_the_empty_pipeline(self):
        self.assertEqual(read_pipeline('-'), [])
        self.assert_unreadable('--', '- -', '-|-', '- | -', ' -', '- ', '-\n', '- | sort', 'sort | -', 'sort | - | sort',
                               '- 1', '-1', '- 0', 'head -', 'sort -', '- sort', 'head 1 | -', '\u2212', '[]', '_')

    def test_the_only_wrong_word_at_the_end(self):
        for word in ('sorted', 'sor', 'sort ', 'sort\n', 'head', 'head 01', 'head -1', 'head 1 ', 'uniq 1', '-', '', '|',
                     'head 1 1', 'head ' + '1' * 31, 'Sort', ' sort', 'head  1', 'head \u0661', 'tail +1', '00'):
            for before in ('sort', 'head 1', f'skip {HUGE} | uniq'):
                text = (before + ' | ') * (3950 // (len(before) + 3)) + word
                self.assertGreater(len(text), 3900)
                self.assert_unreadable(text)
        text = 'sort | ' * 565 + 'uniq'
        self.assertEqual(read_pipeline(text), [('sort',)] * 565 + [('uniq',)])

    def test_long_texts_without_a_command(self):
        self.assert_unreadable('a' * 4000, ' ' * 4000, '|' * 4000, ' | ' * 1333, '0' * 4000, 'sort ' * 800, 'head 1 ' * 571,
                               'sort' * 1000, '-' * 4000, 'sort|' * 800, '\n' * 4000)


class SmallChanges(Readings):
    """Texts that differ a little from those of pipelines; some of them are texts of other pipelines."""

    def setUp(self):
        self.random = Random(81)
        self.texts = list(VALID)
        for _ in range(60):
            self.texts.append(show_pipeline(random_pipeline(self.random, [0, 1, 10, 100, 10 ** 29, HUGE], 5)))
        self.seen = {True: 0, False: 0}

    def count(self, text):
        self.seen[self.check(text)] += 1

    def test_a_character_removed(self):
        for text in self.texts:
            for at in range(len(text)):
                self.count(text[:at] + text[at + 1:])
        self.assertGreater(min(self.seen.values()), 100)

    def test_a_character_inserted(self):
        for text in self.texts:
            for at in range(len(text) + 1):
                for sign in self.random.sample(SIGNS, 20) + list(' |0-\n'):
                    self.count(text[:at] + sign + text[at:])
        self.assertGreater(min(self.seen.values()), 100)

    def test_a_character_replaced(self):
        for text in self.texts:
            for at in range(len(text)):
                for sign in self.random.sample(SIGNS, 20) + list(' |0-\n'):
                    self.count(text[:at] + sign + text[at + 1:])
        self.assertGreater(min(self.seen.values()), 100)

    def test_two_characters_exchanged(self):
        for text in self.texts:
            for at in range(len(text) - 1):
                self.count(text[:at] + text[at + 1] + text[at] + text[at + 2:])
        self.assertGreater(min(self.seen.values()), 100)

    def test_words_removed_doubled_and_exchanged(self):
        for text in self.texts:
            words = text.split(' ')
            for at, word in enumerate(words):
                for row in (
                    words[:at] + words[at + 1:],
                    words[:at] + [word] + words[at:],
                    words[:at] + [word.upper()] + words[at + 1:],
                    words[:at] + words[at + 1:at + 2] + [word] + words[at + 2:],
                    [words[-1]] + words[:-1],
                    words[1:] + words[:1],
                ):
                    self.count(' '.join(row))
                other = self.random.randrange(len(words))
                row = list(words)
                row[at], row[other] = row[other], row[at]
                self.count(' '.join(row))
        self.assertGreater(min(self.seen.values()), 100)

    def test_parts_removed_doubled_and_exchanged(self):
        for text in self.texts:
            parts = text.split(' | ')
            for at, part in enumerate(parts):
                self.count(' | '.join(parts[:at] + parts[at + 1:]))
                self.count(' | '.join(parts[:at] + [part] + parts[at:]))
                self.count(' | '.join(parts[at:] + parts[:at]))
                self.count(' | '.join(parts[:at] + [''] + parts[at:]))
                self.count(' | '.join(parts[:at] + ['-'] + parts[at:]))
        self.assertGreater(min(self.seen.values()), 50)

    def test_drawn_texts(self):
        pieces = ['head', 'tail', 'skip', 'chop', 'reverse', 'uniq', 'sort', ' ', ' | ', '|', '0', '1', '30', '-', ' 2', '']
        for _ in range(30000):
            self.count(''.join(self.random.choice(pieces) for _ in range(self.random.randint(0, 7))))
        self.assertGreater(min(self.seen.values()), 100)


if __name__ == '__main__':
    unittest.main()
