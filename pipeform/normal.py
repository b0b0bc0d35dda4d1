"""Normal forms of pipelines, and the equivalence that they decide."""

from pipeform.commands import check_pipeline
from pipeform.forms import Form


def normal_form(pipeline):
    """Return the equivalent pipeline in normal form."""
    check_pipeline(pipeline)
    form = Form()
    for command in pipeline:
        form.take(command)
    return form.commands()


def is_normal(pipeline):
    """Tell whether a pipeline is in normal form."""
    # No pipeline is equivalent to two normal forms, so one that is normal is its own.
    return normal_form(pipeline) == pipeline


def equivalent(first, second):
    """Tell whether two pipelines give equal results for all lists of lines."""
    return normal_form(first) == normal_form(second)
