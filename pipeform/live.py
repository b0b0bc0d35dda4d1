"""Results of pipelines for lines that change."""

from pipeform.changes import changes_between
from pipeform.errors import InvalidIndex
from pipeform.normal import normal_form
from pipeform.running import run


class Live:
    """The result of a pipeline for lines that are inserted and removed one at a time."""

    def __init__(self, pipeline, lines):
        self._form = normal_form(pipeline)
        self._lines = list(lines)
        self._result = run(self._form, self._lines)

    def __eq__(self, other):
        return isinstance(other, Live) and self._form == other._form and self._lines == other._lines

    def lines(self):
        """Return the lines."""
        return list(self._lines)

    def result(self):
        """Return the result of the pipeline for the lines."""
        return list(self._result)

    def insert(self, index, line):
        """Insert a line before the one at an index, or at the end; return the changes of the result."""
        if index < 0 or index > len(self._lines):
            raise InvalidIndex(index)
        self._lines.insert(index, line)
        return self._update()

    def remove(self, index):
        """Remove the line at an index; return the changes of the result."""
        if index < 0 or index >= len(self._lines):
            raise InvalidIndex(index)
        del self._lines[index]
        return self._update()

    def _update(self):
        old = self._result
        self._result = run(self._form, self._lines)
        # One line more or less changes any result by at most eight insertions and eight removals,
        # so the fewest changes are few enough.
        return changes_between(old, self._result)
