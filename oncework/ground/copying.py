"""Doing a step in a list of parts: what it copies, and from where each part comes.

Nothing is checked here: callers pass terms of any size, as tuples or lists, and
steps of them. Only the parts within the call are gone through.
"""

from oncework.ground.shapes import end_behind


def reaching_out(parts, start):
    """The variables of a part that refer to something outside of it, and its end.

    Each one is told by its place, and by how many functions of the part are around it.
    """
    found = []
    waiting = []
    depth = 0
    at = start
    while True:
        part = parts[at]
        if part == 0:
            waiting.append(depth)
        elif part < 0:
            depth += 1
        else:
            if part > depth:
                found.append((at, depth))
            if not waiting:
                return found, at + 1
            depth = waiting.pop()
        at += 1


def argument_copies(argument, depths):
    """For each of these depths the argument as it stands below so many functions."""
    copies = {0: argument}
    if max(depths) > 0:
        outward = reaching_out(argument, 0)[0]
        for depth in depths:
            if depth not in copies:
                copy = list(argument)
                for at, _ in outward:
                    copy[at] += depth
                copies[depth] = copy
    return copies


def call_made(parts, place):
    """What the step makes of its call: a tuple of four.

    The index behind the call; the integers that come in its stead; the runs of places
    from which these come, each one told by its first place and the one behind its last;
    for each copy of the argument the index at which it begins among the integers, and
    the place of the parameter that it stands for.
    """
    behind = place + 2
    variables, copied = reaching_out(parts, behind)
    end = end_behind(parts, copied)
    argument = list(parts[copied:end])
    arguments = argument_copies(argument, [0] + [depth for _, depth in variables])
    made = []
    runs = []
    copies = []
    for at, depth in variables:
        made.extend(parts[behind:at])
        runs.append((behind, at))
        if parts[at] == depth + 1:
            copies.append((len(made), at))
            made.extend(arguments[depth])
            runs.append((copied, end))
        else:
            # The function of the step was one of those that the variable skips.
            made.append(parts[at] - 1)
            runs.append((at, at + 1))
        behind = at + 1
    made.extend(parts[behind:copied])
    runs.append((behind, copied))
    return end, made, runs, copies


def from_runs(track, runs):
    """What a track tells of the parts of these runs, one behind the other."""
    told = []
    for start, end in runs:
        told.extend(track[start:end])
    return told


def do_step(parts, tracks, place):
    """Does the step in the list of parts, and returns the integers that it makes.

    A track is a list that tells something of each part, and of its rests alike.
    """
    end, made, runs = call_made(parts, place)[:3]
    parts[place:end] = made
    for track in tracks:
        track[place:end] = from_runs(track, runs)
    return made


def term_made(term, place):
    """The term that the step makes."""
    end, made = call_made(term, place)[:2]
    return term[:place] + tuple(made) + term[end:]


def origins_made(term, place):
    """The origin of each part of what the step makes."""
    places = list(range(len(term)))
    do_step(list(term), (places,), place)
    return places


def stands_step(parts, place):
    """Whether a part is a call whose function part is a function."""
    return parts[place] == 0 and parts[place + 1] == -1


def steps_in(parts):
    """The places of all steps, ascending."""
    return [at for at, pair in enumerate(zip(parts, parts[1:])) if pair == (0, -1)]


def first_step(parts, start):
    """The least place of a step from a place on, None if there is none."""
    for at in range(start, len(parts) - 1):
        if parts[at] == 0 and parts[at + 1] == -1:
            return at
    return None
