"""How the parts of a term hold one another.

Nothing is checked here: callers pass integers, and terms of any size.
"""

# Integers that are passed have at most 60 digits.
WHOLE_END = 10 ** 60


def is_whole(value):
    """Whether the value is an integer that may be passed."""
    if not isinstance(value, int) or value is True or value is False:
        return False
    return -WHOLE_END < value < WHOLE_END


def is_whole_within(value, least, most):
    """Whether the value is an integer from `least` to `most`."""
    return is_whole(value) and least <= value <= most


def end_behind(parts, place):
    """The index behind the last part within the part at the place."""
    wanted = 1
    for at, part in enumerate(parts[place:]):
        if part > 0:
            wanted -= 1
            if wanted == 0:
                return place + at + 1
        elif part == 0:
            wanted += 1
    return len(parts)


def slots_of(term):
    """For each part the pair of its holder's place and of how it is held."""
    waiting = [(None, "root")]
    slots = []
    for place, part in enumerate(term):
        slots.append(waiting.pop())
        if part == 0:
            # The function part comes first, so it has to lie on top.
            waiting.append((place, "argument"))
            waiting.append((place, "function"))
        elif part == -1:
            waiting.append((place, "body"))
    return slots


def holders_of_kind(term, place, kind):
    """The holders that hold the part, or a part around it, so; from inside."""
    slots = slots_of(term)
    found = []
    at = place
    while at is not None:
        holder, how = slots[at]
        if how == kind:
            found.append(holder)
        at = holder
    return found


def depths_in(term):
    """For each part how many functions of the term are around it."""
    waiting = [0]
    depths = []
    for part in term:
        depth = waiting.pop()
        depths.append(depth)
        if part == 0:
            waiting.append(depth)
            waiting.append(depth)
        elif part == -1:
            waiting.append(depth + 1)
    return depths


def raised_parts(term, number):
    """The integers of the term, those of its open variables raised."""
    depths = depths_in(term)
    return [part + number if part > depth else part for part, depth in zip(term, depths)]
