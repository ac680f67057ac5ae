"""Linear probing: which slots are taken, and how far the keys are from their homes, by formula."""

from samelayout.errors import TooFull


def flows(counts):
    """For each slot how many keys go over it, and come to rest behind it."""
    # A slot is a run of one slot.
    return flows_behind([(1, count) for count in counts])


def flows_behind(runs):
    """The flow at the last slot of each run, a pair of its number of slots and of the keys with each as their home."""
    require_room(runs)
    flow = 0
    # As there is room for all keys, one round tells how many go over the end of the ring: a further one adds none.
    for size, count in runs:
        flow = flow_behind(flow, size, count)
    behind = []
    for size, count in runs:
        flow = flow_behind(flow, size, count)
        behind.append(flow)
    return tuple(behind)


def require_room(runs):
    """Raise TooFull with the number of keys if there are more keys than slots."""
    keys = sum([size * count for size, count in runs])
    if keys > sum([size for size, count in runs]):
        raise TooFull(keys)


def flow_behind(flow, size, count):
    """The flow at the last one of size slots, each the home of count keys, with the flow ahead of the first one."""
    return max(0, flow + size * (count - 1))


def taken(counts):
    """The slots that have a key, ascending."""
    over = flows(counts)
    # The flow ahead of slot 0 is that at the last slot, which index -1 gives.
    return tuple([slot for slot in range(len(counts)) if over[slot - 1] + counts[slot] > 0])


def distance_sum(counts):
    """The sum of all distances."""
    # A key is counted in the flow of each slot from its home to the one ahead of its own.
    return sum(flows(counts))


def greatest_distance(counts):
    """The greatest distance in the layout by farther_rule, 0 without keys."""
    return max(waits(counts), default=0)


def square_sum(counts):
    """The sum of the squares of the distances in the layout by farther_rule."""
    return sum([wait * wait for wait in waits(counts)])


def waits(counts):
    """The distances in the layout by farther_rule."""
    over = flows(counts)
    # The keys wait in a line, and each slot takes the first: a key goes over as many slots as stand ahead of it.
    return [over[slot - 1] + at for slot in range(len(counts)) for at in range(counts[slot])]
