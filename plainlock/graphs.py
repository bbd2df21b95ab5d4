"""Things of which some must be ahead of others: orders, circles, shortest ways."""

from heapq import heapify, heappop, heappush


def least_order(later):
    """The least order of the keys of a dict, each ahead of what it has there; None if there is none."""
    waits = waits_of(later)
    free = [one for one in waits if waits[one] == 0]
    heapify(free)
    found = []
    while free:
        one = heappop(free)
        found.append(one)
        for other in later[one]:
            waits[other] -= 1
            if waits[other] == 0:
                heappush(free, other)
    return found if len(found) == len(later) else None


def waits_of(later):
    """For each key of how many it has to be behind."""
    waits = {one: 0 for one in later}
    for one in later:
        for other in later[one]:
            waits[other] += 1
    return waits


def some_circle(later):
    """Keys each of which must be ahead of the next one, the last one of the first; None without any."""
    left = {one: later[one] for one in later}
    waits = waits_of(later)
    free = [one for one in waits if waits[one] == 0]
    while free:
        for other in left.pop(free.pop()):
            waits[other] -= 1
            if waits[other] == 0:
                free.append(other)
    if not left:
        return None
    # Each one that is left has one that is left ahead of it.
    ahead = {}
    for one in left:
        for other in left[one]:
            ahead[other] = one
    way, places = [], {}
    here = min(list(left))
    while here not in places:
        places[here] = len(way)
        way.append(here)
        here = ahead[here]
    return tuple(reversed(way[places[here]:]))


def shortest_way(later, start, goal):
    """The fewest keys from start to goal, two at least, each ahead of the next; None without any."""
    came, queue, at = {}, [start], 0
    while at < len(queue) and goal not in came:
        here = queue[at]
        at += 1
        for other in later[here]:
            if other not in came:
                came[other] = here
                queue.append(other)
    if goal not in came:
        return None
    way = [goal, came[goal]]
    while way[-1] != start:
        way.append(came[way[-1]])
    return tuple(reversed(way))
