"""Numbers of inputs that have a given result."""

from itertools import combinations
from math import comb

from pipeform.commands import kept_range
from pipeform.errors import InvalidNumber
from pipeform.normal import normal_form
from pipeform.running import run

LETTERS = "abcdefghijklmnopqrstuvwxyz"


def count_inputs(pipeline, result, length, kinds):
    """Return how many lists of this length, whose lines are among the first letters, have this result."""
    form = normal_form(pipeline)
    if length < 0:
        raise InvalidNumber(length)
    if kinds < 1:
        raise InvalidNumber(kinds)
    letters = list(LETTERS[:kinds])
    before_sort = form.index(("sort",)) if ("sort",) in form else len(form)
    tally = Tally(length, len(letters))
    for command in form[:before_sort]:
        tally.take(command)
    if before_sort < len(form):
        return _count_by_sets(tally, form[before_sort:], result, letters)
    if _can_leave(tally, result, letters):
        return tally.inputs.get(len(result), 0)
    return 0


class Tally:
    """How many inputs lead to each list that can leave the commands taken so far, none of which is sort.

    As many inputs lead to one list as to any other one of equal length, so a number for each length is enough.
    """

    def __init__(self, length, kinds):
        self.inputs = {length: 1}
        self.longest = length
        self.kinds = kinds
        # How many kinds of lines can stand beside a line.
        self.choices = kinds

    def take(self, command):
        """Add a command of a normal form."""
        if command == ("uniq",):
            self._take_uniq()
        # reverse leaves as many lists of each length as reach it.
        elif command != ("reverse",):
            self._take_cut(command)

    def inputs_by_kinds(self):
        """Return how many inputs lead to lists of no other lines than so many given ones, all of which occur."""
        most = min(self.kinds, self.longest)
        totals = [0] * (most + 1)
        # At each index the number of lists, of the length at hand, in which all of so many given lines occur.
        orders = [1] + [0] * most
        for length in range(self.longest + 1):
            leading = self.inputs.get(length, 0)
            totals = [total + leading * number for total, number in zip(totals, orders)]
            orders = self._longer(orders)
        return totals

    def _take_uniq(self):
        reached = {}
        for length, number in self.inputs.items():
            for runs in range(length + 1):
                reached[runs] = reached.get(runs, 0) + number * _splits(length, runs)
        self.inputs = reached
        self.choices = self.kinds - 1

    def _take_cut(self, command):
        reached = {}
        for length, number in self.inputs.items():
            start, end = kept_range(command, length)
            kept = end - start
            reached[kept] = reached.get(kept, 0) + number * self._extensions(kept, length)
        self.inputs = reached

    def _extensions(self, kept, length):
        # Each removed line, from the kept ones outwards, is any that can stand beside the one before.
        number = 1
        for position in range(kept, length):
            number *= self.choices if position > 0 else self.kinds
        return number

    def _longer(self, orders):
        # The line at the end is the only one of its kind, or any that can stand beside the one before.
        barred = self.kinds - self.choices
        return [0] + [many * orders[many - 1] + (many - barred) * orders[many] for many in range(1, len(orders))]


def _splits(length, runs):
    """Return in how many ways so many lines are split into so many runs."""
    if length == 0 or runs == 0:
        return 1 if length == runs else 0
    return comb(length - 1, runs - 1)


def _count_by_sets(tally, pipeline, result, letters):
    # What sort returns depends on nothing but which lines occur.
    inputs = tally.inputs_by_kinds()
    total = 0
    for many in range(len(inputs)):
        for chosen in combinations(letters, many):
            if run(pipeline, list(chosen)) == result:
                total += inputs[many]
    return total


def _can_leave(tally, lines, letters):
    if tally.choices < tally.kinds and run([("uniq",)], lines) != lines:
        return False
    return all([line in letters for line in lines])
