"""Probe orders: the orders in which keys ask the slots."""

from samelayout.errors import BadCount, BadStep
from samelayout.kinds import is_integer_within


def is_probe_order(count, value):
    """Whether any value is a tuple of all slots, each once."""
    if not isinstance(value, tuple) or len(value) != count:
        return False
    # The set comes last: only integers are sure to have a place in one.
    return all([is_integer_within(slot, 0, count - 1) for slot in value]) and len(set(value)) == count


def linear(count, home):
    """The slots from home on, one behind another, round the ring."""
    return tuple([(home + at) % count for at in range(count)])


def stepped(count, home, step):
    """The slots from home on, each step slots behind the former one, round the ring."""
    slots = tuple([(home + at * step) % count for at in range(count)])
    if not is_probe_order(count, slots):
        raise BadStep(step)
    return slots


def triangular(count, home):
    """The slots from home on, each one slot farther behind the former one than that one was."""
    if not is_power_of_two(count):
        raise BadCount(count)
    return tuple([(home + at * (at + 1) // 2) % count for at in range(count)])


def is_power_of_two(number):
    """Whether an integer is 1, 2, 4, 8, .."""
    # Only a power of two shares no binary digit with the number below it.
    return number > 0 and number & (number - 1) == 0
