"""Pipelines that are read from their texts."""

from pipeform.commands import is_command
from pipeform.errors import Unreadable
from pipeform.texts import EMPTY, SEPARATOR

DIGITS = "0123456789"
MOST_DIGITS = 30


def read_pipeline(text):
    """Return the pipeline of a text."""
    if text == EMPTY:
        return []
    pipeline = []
    for part in text.split(SEPARATOR):
        command = _read_command(part)
        if command is None:
            raise Unreadable(text)
        pipeline.append(command)
    return pipeline


def _read_command(part):
    """Return the command of a part of a text, or None."""
    words = part.split(" ")
    if len(words) == 1:
        command = (words[0],)
    elif len(words) == 2 and _is_number(words[1]):
        command = (words[0], int(words[1]))
    else:
        return None
    return command if is_command(command) else None


def _is_number(word):
    if len(word) == 0 or len(word) > MOST_DIGITS:
        return False
    if word[0] == "0" and len(word) > 1:
        return False
    # int would take signs, underscores and the digits of other scripts, too.
    return all([sign in DIGITS for sign in word])
