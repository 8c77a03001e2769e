"""Ways from step to step: what one comes to, the fewest steps to an end, the most steps to each thing."""


# Each thing that one comes to from the starts by none or more steps, with those to which one steps from it.
def reached(starts, nexts_of):
    nexts = {}
    waiting = list(starts)
    while len(waiting) > 0:
        here = waiting.pop()
        if here not in nexts:
            nexts[here] = nexts_of(here)
            waiting.extend(nexts[here])
    return nexts


# The same steps read backwards: for each thing those that step to it.
def turned_back(nexts):
    ahead = {}
    for here in nexts:
        ahead.setdefault(here, [])
        for come in nexts[here]:
            ahead.setdefault(come, []).append(here)
    return ahead


# Walked back from the ends, so the first number of steps that is found for a thing is the least. A thing from which
# one never comes to an end has none.
def fewest_steps(nexts, ends):
    ahead = turned_back(nexts)
    left = {}
    found = ends
    steps = 0
    while len(found) > 0:
        further = []
        for come in found:
            if come not in left:
                left[come] = steps
                further.extend(ahead.get(come, []))
        found = further
        steps = steps + 1
    return left


# The greatest number of steps of a way that ends at each thing, told those that step to it. In each round a thing has
# its number when all that step to it have theirs; so what lies on a way that comes back, or behind one, has none.
def most_steps(ahead):
    most = {}
    free = [here for here in ahead if len(ahead[here]) == 0]
    steps = 0
    while len(free) > 0:
        for here in free:
            most[here] = steps
        steps = steps + 1
        free = [here for here in ahead if here not in most and all([come in most for come in ahead[here]])]
    return most
