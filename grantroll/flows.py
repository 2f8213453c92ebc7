"""As many ways as possible that have no place in common, and as few places that all ways go through."""

# Place k has an entrance, the node 2 * k, and an exit, the node 2 * k + 1. The passage between them is narrow:
# it has room for one way, while all other steps have room for any number.
START = -1
END = -2


def separate_ways(nexts, starts, goals):
    """A tuple (ways, cut): ways from starts to goals without a common place, and as many places that cut all.

    The places are numbers from 0 on; nexts[k] lists the places that come behind place k on a way.
    """
    steps = steps_between(nexts, starts, goals)
    used = {}
    came = search(steps, used)
    while END in came:
        use_way(used, came)
        came = search(steps, used)
    # Here every way is stopped: the search came to the entrance and not to the exit.
    cut = [k for k in range(len(nexts)) if 2 * k in came and 2 * k + 1 not in came]
    return (ways_in(used), cut)


def steps_between(nexts, starts, goals):
    """A dict that has, for each node, the list of the nodes to which one step leads."""
    steps = {START: [2 * k for k in starts], END: []}
    for k, behind in enumerate(nexts):
        steps[2 * k] = [2 * k + 1]
        steps[2 * k + 1] = [2 * later for later in behind]
    for k in goals:
        steps[2 * k + 1].append(END)
    return steps


def search(steps, used):
    """A dict that has, for each node to which one more way can come, the node from which it comes."""
    came = {START: None}
    waiting = [START]
    while waiting and END not in came:
        node = waiting.pop()
        for after in free_steps(steps, used, node):
            if after not in came:
                came[after] = node
                waiting.append(after)
    return came


def free_steps(steps, used, node):
    """The nodes to which one more way can go from the node: onward, or back where it turns a used step off."""
    is_entrance = node % 2 == 0
    onward = [after for after in steps[node] if not is_entrance or (node, after) not in used]
    return onward + [before for before, after in used if after == node]


def use_way(used, came):
    """Adds the way to the end that the search found to the used steps, and takes out those that it turns off."""
    node = END
    while node != START:
        before = came[node]
        if (node, before) in used:
            del used[(node, before)]
        else:
            used[(before, node)] = True
        node = before


def ways_in(used):
    """The lists of places that the used steps make up."""
    nexts = {before: after for before, after in used}
    ways = []
    for before, node in used:
        if before == START:
            way = []
            while node != END:
                way.append(node // 2)
                node = nexts[node + 1]
            ways.append(way)
    return ways
