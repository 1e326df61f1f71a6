"""The calls as the tests write them, and the desk asked with them."""

from quartermeters.desk import answers

# The ranges of each call's arguments, in their order.
METER = (1, 32)
BOUNDARY = (0, 10000)
QUARTER = (0, 9999)
SHOWN = (0, 999999999)
HAND = (0, 32)
ZONE = (0, 7)
RANGES = {
    1: [(0, 2), ZONE, ZONE, BOUNDARY, (1, 9), (1, 10000), SHOWN, (0, 8), (0, 1000000)],
    2: [METER, BOUNDARY, (1, 1000000), (-1, 999999999)],
    3: [METER, BOUNDARY, SHOWN, SHOWN, (1, 9), (1, 10000)],
    4: [METER, BOUNDARY, SHOWN],
    5: [METER, (0, 1000000)],
    6: [METER, QUARTER, HAND],
    7: [BOUNDARY],
    8: [BOUNDARY, BOUNDARY],
    9: [METER, BOUNDARY],
    10: [METER, BOUNDARY],
    11: [METER, QUARTER],
    12: [METER, BOUNDARY, BOUNDARY],
    13: [METER, BOUNDARY],
    14: [METER, QUARTER],
    15: [HAND, ZONE, BOUNDARY, BOUNDARY],
    16: [ZONE, BOUNDARY, BOUNDARY],
    17: [BOUNDARY, BOUNDARY],
    18: [METER],
    19: [METER, (0, 10 ** 12)],
    20: [BOUNDARY],
    21: [BOUNDARY, BOUNDARY],
    22: [],
}


def profile(*weights):
    return [0, len(weights), *weights]


def install(kind=0, zone=0, second=0, boundary=0, digits=3, factor=1, start=0, profile=0, rate=0):
    return [1, kind, zone, second, boundary, digits, factor, start, profile, rate]


def read(meter, boundary, version, value):
    return [2, meter, boundary, version, value]


def swap(meter, boundary, end, start=0, digits=3, factor=1):
    return [3, meter, boundary, end, start, digits, factor]


def remove(meter, boundary, end):
    return [4, meter, boundary, end]


def rate(meter, number):
    return [5, meter, number]


def assign(meter, quarter, hand):
    return [6, meter, quarter, hand]


def lock(boundary):
    return [7, boundary]


def publish(start, end):
    return [8, start, end]


def standing(meter, boundary):
    return [9, meter, boundary]


def history(meter, boundary):
    return [10, meter, boundary]


def value(meter, quarter):
    return [11, meter, quarter]


def between(meter, start, end):
    return [12, meter, start, end]


def through(meter, boundary):
    return [13, meter, boundary]


def hand(meter, quarter):
    return [14, meter, quarter]


def total(number, zone, start, end):
    return [15, number, zone, start, end]


def rest(zone, start, end):
    return [16, zone, start, end]


def nets(start, end):
    return [17, start, end]


def gaps(meter):
    return [18, meter]


def doubt(meter, most):
    return [19, meter, most]


def unread(boundary):
    return [20, boundary]


def published(start, end):
    return [21, start, end]


def state():
    return [22]


def put_in(call, place, number):
    """The call with another number as its argument at this place, counted from 0."""
    return call[:place + 1] + [number] + call[place + 2:]


def joined(calls):
    return [number for call in calls for number in call]


def parted(told):
    parts = []
    at = 0
    while at < len(told):
        end = at + 1 + told[at]
        parts.append(told[at + 1:end])
        at = end
    if at != len(told):
        raise ValueError("the last answer is shorter than it says")
    return parts


def ask(*calls):
    """The answers to the calls, one list each."""
    parts = parted(answers(joined(calls)))
    if len(parts) != len(calls):
        raise ValueError("as many answers as calls")
    return parts


def last(*calls):
    """The answer to the last call; those before it must be accepted."""
    parts = ask(*calls)
    for call, part in zip(calls[:-1], parts[:-1]):
        if part[0] != 0:
            raise ValueError(f"{call} was refused by {part}")
    return parts[-1]


def asked(before, *calls):
    """What each of the calls answers behind its 0; they ask, so they all see what the calls before them left."""
    parts = ask(*before, *calls)
    for call, part in zip([*before, *calls], parts):
        if part[0] != 0:
            raise ValueError(f"{call} was refused by {part}")
    return [part[1:] for part in parts[len(before):]]


def values(meter, quarters, *calls):
    """How each of the quarters is known, and its value, behind the calls."""
    parts = ask(*calls, *[value(meter, quarter) for quarter in quarters])
    return [tuple(part[1:]) for part in parts[len(calls):]]
