"""Texts of pipelines."""

SEPARATOR = " | "
EMPTY = "-"


def show_pipeline(pipeline):
    """Return the text of a pipeline."""
    if not pipeline:
        return EMPTY
    return SEPARATOR.join([_show_command(command) for command in pipeline])


def _show_command(command):
    if len(command) == 1:
        return command[0]
    return command[0] + " " + _show_number(command[1])


def _show_number(number):
    # Powers of powers have numbers of any length; Python itself writes out some thousands of digits at most.
    digits = ""
    while number >= 10 ** 60:
        number, block = divmod(number, 10 ** 60)
        digits = str(block).zfill(60) + digits
    return str(number) + digits
