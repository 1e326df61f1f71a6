"""The calls as the tests write them, and the desk asked with them."""

from quartermeters.desk import answers


def profile(*weights):
    return [0, len(weights), *weights]


def install(kind=0, zone=0, second=0, boundary=0, digits=3, factor=1, start=0, profile=0, rate=0):
    return [1, kind, zone, second, boundary, digits, factor, start, profile, rate]


def read(meter, boundary, version, value):
    return [2, meter, boundary, version, value]


def swap(meter, boundary, end, start=0, digits=3, factor=1):
    return [3, meter, boundary, end, start, digits, factor]


def remove(meter, boundary, end):
    return [4, meter, boundary, end]


def rate(meter, number):
    return [5, meter, number]


def assign(meter, quarter, hand):
    return [6, meter, quarter, hand]


def lock(boundary):
    return [7, boundary]


def publish(start, end):
    return [8, start, end]


def standing(meter, boundary):
    return [9, meter, boundary]


def history(meter, boundary):
    return [10, meter, boundary]


def value(meter, quarter):
    return [11, meter, quarter]


def joined(calls):
    return [number for call in calls for number in call]


def parted(told):
    parts = []
    at = 0
    while at < len(told):
        end = at + 1 + told[at]
        parts.append(told[at + 1:end])
        at = end
    if at != len(told):
        raise ValueError("the last answer is shorter than it says")
    return parts


def ask(*calls):
    """The answers to the calls, one list each."""
    parts = parted(answers(joined(calls)))
    if len(parts) != len(calls):
        raise ValueError("as many answers as calls")
    return parts


def last(*calls):
    """The answer to the last call; those before it must be accepted."""
    parts = ask(*calls)
    for call, part in zip(calls[:-1], parts[:-1]):
        if part[0] != 0:
            raise ValueError(f"{call} was refused by {part}")
    return parts[-1]


def values(meter, quarters, *calls):
    """How each of the quarters is known, and its value, behind the calls."""
    parts = ask(*calls, *[value(meter, quarter) for quarter in quarters])
    return [tuple(part[1:]) for part in parts[len(calls):]]
