"""Steps on rows, which change nothing of what can be reached [8]."""

from commonhouse.numbers import is_whole


def is_number_of_row(many, thing):
    """Whether a thing, whatever it is, is the number of one of so many rows."""
    return is_whole(thing) and 0 <= thing < many


def are_unlike_rows(many, one, other):
    """Whether two things, whatever they are, are numbers of unlike rows."""
    return is_number_of_row(many, one) and is_number_of_row(many, other) and one != other


def is_step(many, thing):
    """Whether a thing, whatever it is, is a step for so many rows."""
    if not isinstance(thing, tuple) or len(thing) == 0:
        return False
    if thing[0] == "add":
        return len(thing) == 4 and are_unlike_rows(many, thing[1], thing[2]) and is_whole(thing[3])
    if thing[0] == "swap":
        return len(thing) == 3 and are_unlike_rows(many, thing[1], thing[2])
    if thing[0] == "turn":
        return len(thing) == 2 and is_number_of_row(many, thing[1])
    return False


def stepped(rows, step):
    """The rows behind a step."""
    behind = list(rows)
    at = step[1]
    if step[0] == "add":
        behind[at] = tuple([x + step[3] * y for x, y in zip(rows[at], rows[step[2]])])
    elif step[0] == "swap":
        behind[at], behind[step[2]] = rows[step[2]], rows[at]
    else:
        behind[at] = tuple([-x for x in rows[at]])
    return tuple(behind)


def taken_back(step):
    """The step that takes a step back."""
    if step[0] == "add":
        return ("add", step[1], step[2], -step[3])
    return step
