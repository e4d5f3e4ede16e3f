"""What several modules ask of plain objects and numbers."""


def is_whole(value):
    """Tell whether an object is an integer; bools are none."""
    return isinstance(value, int) and not isinstance(value, bool)


def is_row(value):
    """Tell whether an object is a list or a tuple: each is accepted for the other one."""
    return isinstance(value, (list, tuple))


def up(number, step):
    """Return the least multiple of step that is number or more."""
    return (number + step - 1) // step * step
