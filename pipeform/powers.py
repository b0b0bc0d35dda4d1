"""Pipelines that are repeated very many times."""

from pipeform.errors import InvalidNumber
from pipeform.normal import normal_form


def power(pipeline, times):
    """Return the normal form of the pipeline that repeats a pipeline so many times."""
    doubled = normal_form(pipeline)
    if times < 0:
        raise InvalidNumber(times)
    result = []
    while times > 0:
        if times & 1:
            result = normal_form(result + doubled)
        # However often it is doubled, the pipeline stays short: at most as many lines come back
        # to a head or a tail as it kept the first time, so only the first time counts.
        doubled = normal_form(doubled + doubled)
        times //= 2
    return result
