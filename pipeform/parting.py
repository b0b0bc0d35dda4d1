"""Lists of lines that tell two pipelines apart."""

from pipeform.normal import equivalent
from pipeform.running import run


def parting_lines(first, second):
    """Return lines for which two pipelines give different results, or None if they are equivalent."""
    if equivalent(first, second):
        return None
    length = 1
    # This ends: the telling lists of all lengths tell any two normal forms apart.
    while True:
        for lines in telling_lists(length):
            if run(first, lines) != run(second, lines):
                return lines
        length += 1


def telling_lists(length):
    """Return lists of so many lines, of the kinds that tell any two normal forms apart."""
    # Rotations tell slices, uniq and sort apart where the same lines reach them. Where the slices
    # before uniq and sort differ, one of them keeps a line at an end that the other one drops.
    # With a run of equal lines at this end or at the other one, it depends on this line alone
    # how many different lines reach the rest of the pipeline.
    rising = list(range(length))
    lists = [rising[turn:] + rising[:turn] for turn in rising]
    for equal in range(1, length + 1):
        front = [max(rank, equal - 1) for rank in rising]
        back = [min(rank, length - equal) for rank in rising]
        lists.extend([front, front[::-1], back, back[::-1]])
    return [_named(ranks) for ranks in lists]


def _named(ranks):
    # With equally many digits, the lines have the order of their ranks.
    digits = len(str(len(ranks)))
    return [str(rank).zfill(digits) for rank in ranks]
