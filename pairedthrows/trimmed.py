"""Programs without what is idle."""

from pairedthrows.forms import rebuilt
from pairedthrows.needed import is_idle, needed


def trimmed(program):
    # No idle row makes a name needed, so without them just the same names are: once over is enough.
    names = needed(program)
    return (program[0], rebuilt(program[1], lambda row, number: [] if is_idle(row, names) else [row]))
