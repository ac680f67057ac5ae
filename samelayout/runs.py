"""Long tables: linear probing where many slots, one behind another, are the home of equally many keys."""

from samelayout.linear import flow_behind, flows_behind


def run_flow(runs, slot):
    """The flow at a slot: how many keys go over it, and come to rest behind it."""
    coming, count = coming_to(runs, slot)
    return flow_behind(coming, 1, count)


def run_taken(runs, slot):
    """Whether a slot has a key."""
    coming, count = coming_to(runs, slot)
    return coming + count > 0


def coming_to(runs, slot):
    """How many keys come to a slot from those ahead of it, and how many have it as their home."""
    behind = flows_behind(runs)
    at = 0
    inside = slot
    while inside >= runs[at][0]:
        inside -= runs[at][0]
        at += 1
    count = runs[at][1]
    # The flow ahead of run 0 is that behind the last run, which index -1 gives.
    return flow_behind(behind[at - 1], inside, count), count


def run_distance_sum(runs):
    """The sum of all distances."""
    behind = flows_behind(runs)
    return sum([flow_sum(behind[at - 1], runs[at][0], runs[at][1]) for at in range(len(runs))])


def flow_sum(flow, size, count):
    """The sum of the flows at size slots, each the home of count keys, with the flow ahead of the first one."""
    # Where no key has its home, each slot takes one of those that come; behind the last of them the flow is 0.
    many = size if count > 0 else min(size, flow)
    return many * flow + (count - 1) * (many * (many + 1) // 2)


def run_greatest(runs):
    """The greatest distance in the layout by farther_rule."""
    # The last key of a home goes over as many slots as the flow there, which is greatest at the end of some run.
    return max(flows_behind(runs))
