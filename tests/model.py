"""What DOC.md says, computed once more in the plainest way, for the tests to compare with."""

from itertools import product

HUGE = 10 ** 30 - 1
SLICING = ('head', 'tail', 'skip', 'chop')
INFINITE = float('inf')

INVALID_ELEMENTS = [
    ('shuffle',), ('',), ('HEAD',), ('Sort',), ('uniq ',),
    ('shuffle', 1), ('', 0), ('Head', 1), ('chop ', 2),
    ('reverse', 0), ('reverse', 1), ('uniq', 0), ('uniq', 2), ('sort', 0), ('sort', 1), ('sort', -1),
    ('head',), ('tail',), ('skip',), ('chop',),
    ('head', -1), ('tail', -1), ('skip', -1), ('chop', -1), ('head', -HUGE), ('chop', -HUGE),
]


def all_commands(numbers):
    numbered = [(name, number) for name in SLICING for number in numbers]
    return numbered + [('reverse',), ('uniq',), ('sort',)]


def all_pipelines(numbers, longest):
    commands = all_commands(numbers)
    for length in range(longest + 1):
        for pipeline in product(commands, repeat=length):
            yield list(pipeline)


def all_lists(kinds, longest):
    for length in range(longest + 1):
        for lines in product(kinds, repeat=length):
            yield list(lines)


def random_pipeline(random, numbers, longest=12):
    length = random.randint(0, longest)
    slices = [(name, number) for name in SLICING for number in numbers]
    others = [('reverse',), ('uniq',), ('sort',)]
    return [random.choice(slices if random.random() < 0.6 else others) for _ in range(length)]


def random_lines(random, longest=60):
    kinds = 'abcdefghijklmnopqrstuvwxyz'[:random.choice([1, 2, 2, 3, 5, 26])]
    return [random.choice(kinds) for _ in range(random.randint(0, longest))]


def plain_command(command, lines):
    """Apply one command, line by line."""
    name, number = command[0], command[-1]
    length = len(lines)
    if name == 'reverse':
        return [lines[length - 1 - at] for at in range(length)]
    if name == 'uniq':
        return [lines[at] for at in range(length) if at == 0 or lines[at] != lines[at - 1]]
    if name == 'sort':
        kept = []
        for line in lines:
            if line not in kept:
                kept.insert(sum(other < line for other in kept), line)
        return kept
    keeps = {
        'head': lambda at: at < number,
        'tail': lambda at: length - at <= number,
        'skip': lambda at: at >= number,
        'chop': lambda at: length - at > number,
    }[name]
    return [lines[at] for at in range(length) if keeps(at)]


def plain_run(pipeline, lines):
    lines = list(lines)
    for command in pipeline:
        lines = plain_command(command, lines)
    return lines


def written_out(runs):
    return [line for line, count in runs for _ in range(count)]


def slice_parts(commands):
    """The numbers of skip and chop, and the sizes, of a normal slice [8]; None for anything else."""
    rest = list(commands)
    removed = []
    for name in ('skip', 'chop'):
        number = 0
        if rest and rest[0][0] == name:
            number = rest.pop(0)[1]
            if number < 1:
                return None
        removed.append(number)
    for at, (name, size) in enumerate(rest):
        if name not in ('head', 'tail') or size < 1:
            return None
        if at > 0 and (rest[at - 1][0] == name or rest[at - 1][1] <= size):
            return None
    return removed[0], removed[1], [size for name, size in rest]


def satisfies_point_9(pipeline):
    """Whether a pipeline is in normal form, condition by condition."""
    if pipeline == [('head', 0)]:
        return True
    rest = list(pipeline)
    turned = rest[-1:] == [('reverse',)]
    if turned:
        rest.pop()
    slices, marks = [[]], []
    for command in rest:
        if command[0] in SLICING:
            slices[-1].append(command)
        else:
            marks.append(command[0])
            slices.append([])
    if marks not in ([], ['uniq'], ['sort'], ['uniq', 'sort']):
        return False
    if marks == ['uniq', 'sort'] and not slices[1]:
        return False
    if 'uniq' in marks and slices[1] in ([('head', 1)], [('tail', 1)]):
        return False
    before = INFINITE
    for at, commands in enumerate(slices):
        parts = slice_parts(commands)
        if parts is None:
            return False
        skipped, chopped, sizes = parts
        if at > 0:
            if before < 2 or skipped + chopped >= before:
                return False
            if any(size >= before - skipped - chopped for size in sizes):
                return False
        before = sizes[-1] if sizes else before - skipped - chopped
    return not turned or before >= 2


def small_changes(pipeline, numbers):
    """Pipelines that differ from one by a number one more or less, or by one command."""
    commands = all_commands(numbers)
    for at, command in enumerate(pipeline):
        before, after = pipeline[:at], pipeline[at + 1:]
        if len(command) == 2:
            for number in (command[1] - 1, command[1] + 1):
                if number in numbers:
                    yield before + [(command[0], number)] + after
        yield before + after
        for other in commands:
            yield before + [other] + after
        if after:
            yield before + [after[0], command] + after[1:]
    for at in range(len(pipeline) + 1):
        for command in commands:
            yield pipeline[:at] + [command] + pipeline[at:]
