"""Commands and pipelines: what they look like, and which lines a slice command keeps."""

from pipeform.errors import InvalidCommand

SLICING = ("head", "tail", "skip", "chop")
PLAIN = ("reverse", "uniq", "sort")


def is_command(element):
    """Tell whether an element of a pipeline is a command."""
    if len(element) == 1:
        return element[0] in PLAIN
    return element[0] in SLICING and element[1] >= 0


def check_pipeline(pipeline):
    """Raise InvalidCommand for the first element that is not a command."""
    for index, element in enumerate(pipeline):
        if not is_command(element):
            raise InvalidCommand(index)


def kept_range(command, length):
    """Return the start and the end of what a slice command keeps of so many lines."""
    name, number = command
    number = min(number, length)
    if name == "head":
        return 0, number
    if name == "tail":
        return length - number, length
    if name == "skip":
        return number, length
    return 0, length - number
