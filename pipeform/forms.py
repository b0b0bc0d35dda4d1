"""Normal forms that are built up one command at a time."""

MIRRORED = {"head": "tail", "tail": "head", "skip": "chop", "chop": "skip"}


class Slice:
    """A normal slice that at most `limit` lines can reach (None: any number)."""

    def __init__(self, limit):
        self.limit = limit
        self.skipped = 0
        self.chopped = 0
        self.sizes = []

    def capacity(self):
        """Return the largest number of lines that can leave the slice, or None."""
        if self.sizes:
            return self.sizes[-1][1]
        if self.limit is None:
            return None
        return self.limit - self.skipped - self.chopped

    def drop(self, name, number):
        """Add a skip or a chop with a number less than the capacity."""
        if name == "skip":
            self.skipped += number
        else:
            self.chopped += number
        # The new command moves to the front, so the sizes no longer count what it removes.
        self.sizes = [(side, size - number) for side, size in self.sizes]

    def keep(self, name, number):
        """Add a head or a tail with a positive number less than the capacity."""
        if self.sizes and self.sizes[-1][0] == name:
            self.sizes.pop()
        self.sizes.append((name, number))

    def commands(self):
        """Return the slice as a pipeline."""
        removals = [("skip", self.skipped), ("chop", self.chopped)]
        return [command for command in removals if command[1] > 0] + self.sizes


class Form:
    """The normal form of the commands that it has taken."""

    def __init__(self):
        # marks[k] is the name of the command between slices[k] and slices[k + 1].
        self.slices = [Slice(None)]
        self.marks = []
        self.flipped = False
        self.barren = False

    def take(self, command):
        """Become the normal form with one more command at the end."""
        name = command[0]
        if name == "reverse":
            self.flipped = not self.flipped
        elif name == "uniq":
            self._take_uniq()
        elif name == "sort":
            self._take_sort()
        elif self.flipped:
            self._take_cut(MIRRORED[name], command[1])
        else:
            self._take_cut(name, command[1])

    def commands(self):
        """Return the normal form as a pipeline."""
        if self.barren:
            return [("head", 0)]
        pipeline = self.slices[0].commands()
        for mark, part in zip(self.marks, self.slices[1:]):
            pipeline.append((mark,))
            pipeline.extend(part.commands())
        if self.flipped and self._leaves_several():
            pipeline.append(("reverse",))
        return pipeline

    def _leaves_several(self):
        capacity = self.slices[-1].capacity()
        return capacity is None or capacity >= 2

    def _take_uniq(self):
        # Behind an earlier uniq or sort, no adjacent lines are equal.
        if not self.marks and self._leaves_several():
            self._begin("uniq")

    def _take_sort(self):
        self.flipped = False
        if "sort" in self.marks or not self._leaves_several():
            return
        if self.marks and not self.slices[-1].commands():
            self._forget_uniq()
        self._begin("sort")

    def _begin(self, mark):
        limit = self.slices[-1].capacity()
        self.marks.append(mark)
        self.slices.append(Slice(limit))

    def _forget_uniq(self):
        self.marks.pop()
        self.slices.pop()

    def _take_cut(self, name, number):
        capacity = self.slices[-1].capacity()
        if name in ("head", "tail"):
            if number == 0:
                self.barren = True
            elif capacity is None or number < capacity:
                self._keep(name, number)
        elif capacity is None or number < capacity:
            self.slices[-1].drop(name, number)
        else:
            self.barren = True

    def _keep(self, name, number):
        self.slices[-1].keep(name, number)
        # uniq leaves the first and the last line as they are.
        if self.marks == ["uniq"] and self.slices[-1].commands() == [(name, 1)]:
            self._forget_uniq()
            self.slices[-1].keep(name, 1)
