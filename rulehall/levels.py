"""The levels of kinds: whatever a rule asks to be absent is settled on a lesser level than its head."""

from rulehall.errors import NoLevels
from rulehall.things import all_atoms_of


def links_of(rules):
    # (kind in a body, kind of its head, how much greater the head's level must be at the least)
    links = []
    for head, body in rules:
        links.extend([(atom[0], head[0], 0 if mark == "yes" else 1) for mark, atom in body])
    return links


def path_between(links, start, goal):
    # From start to goal, each kind in the body of a rule of the next one; empty where there is no path.
    paths = {start: (start,)}
    waiting = [start]
    while waiting and goal not in paths:
        kind = waiting.pop(0)
        for above in [link[1] for link in links if link[0] == kind]:
            if above not in paths:
                paths[above] = paths[kind] + (above,)
                waiting.append(above)
    return paths.get(goal, ())


def ring_of(links):
    for kind, above, step in links:
        path = path_between(links, above, kind) if step > 0 else ()
        if path:
            return (kind,) + path[:-1]
    return ()


def levels_of(rules):
    links = links_of(rules)
    ring = ring_of(links)
    # Without a ring the levels below come to rest; with one they would rise for ever.
    if ring:
        raise NoLevels(ring)
    levels = dict([(atom[0], 0) for atom in all_atoms_of(rules)])
    risen = True
    while risen:
        risen = False
        for kind, above, step in links:
            least = levels[kind] + step
            if levels[above] < least:
                levels[above] = least
                risen = True
    return tuple(sorted(levels.items()))
