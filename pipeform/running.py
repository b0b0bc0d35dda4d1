"""Pipelines applied to lists of lines, written out or given by runs."""

from pipeform.commands import check_pipeline, kept_range
from pipeform.errors import InvalidRun


def run(pipeline, lines):
    """Return the result of a pipeline for a list of lines."""
    check_pipeline(pipeline)
    result = list(lines)
    for command in pipeline:
        result = _apply(command, result)
    return result


def run_on_runs(pipeline, runs):
    """Return the runs of the result of a pipeline for lines that are given by runs."""
    check_pipeline(pipeline)
    _check_runs(runs)
    result = _merged(runs)
    for command in pipeline:
        result = _apply_to_runs(command, result)
    return result


def _apply(command, lines):
    if command == ("reverse",):
        return lines[::-1]
    if command == ("uniq",):
        return [line for line, count in _merged([(line, 1) for line in lines])]
    if command == ("sort",):
        return sorted(set(lines))
    start, end = kept_range(command, len(lines))
    return lines[start:end]


def _check_runs(runs):
    for index, (line, count) in enumerate(runs):
        if count < 1:
            raise InvalidRun(index)


def _merged(runs):
    merged = []
    for line, count in runs:
        if merged and merged[-1][0] == line:
            merged[-1] = (line, merged[-1][1] + count)
        else:
            merged.append((line, count))
    return merged


def _apply_to_runs(command, runs):
    # Adjacent runs differ before every command, and so they do after it.
    if command == ("reverse",):
        return runs[::-1]
    if command == ("uniq",):
        return [(line, 1) for line, count in runs]
    if command == ("sort",):
        return [(line, 1) for line in sorted({line for line, count in runs})]
    start, end = kept_range(command, sum([count for line, count in runs]))
    return _cut_runs(runs, start, end)


def _cut_runs(runs, start, end):
    kept = []
    position = 0
    for line, count in runs:
        low = max(start, position)
        high = min(end, position + count)
        if low < high:
            kept.append((line, high - low))
        position += count
    return kept
