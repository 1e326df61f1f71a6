"""The calls' arguments: how they are called, how a call carries them, within which range they must lie."""

PROFILE = 0

MOST_WEIGHTS = 96

# The least and the greatest number of each argument; of weights, of each of its numbers.
LIMITS = {
    "weights": (0, 1000),
    "kind": (0, 2),
    "zone": (0, 7),
    "second": (0, 7),
    "boundary": (0, 10000),
    "digits": (1, 9),
    "factor": (1, 10000),
    "start": (0, 999999999),
    "end": (0, 999999999),
    "profile": (0, 8),
    "rate": (0, 1000000),
    "meter": (1, 32),
    "version": (1, 1000000),
    "value": (-1, 999999999),
    "quarter": (0, 9999),
    "hand": (0, 32),
    "from": (0, 10000),
    "to": (0, 10000),
    "most": (0, 1000000000000),
}

# The arguments of each call by its number; profile has a row instead.
ARGUMENTS = {
    1: ("kind", "zone", "second", "boundary", "digits", "factor", "start", "profile", "rate"),
    2: ("meter", "boundary", "version", "value"),
    3: ("meter", "boundary", "end", "start", "digits", "factor"),
    4: ("meter", "boundary", "end"),
    5: ("meter", "rate"),
    6: ("meter", "quarter", "hand"),
    7: ("boundary",),
    8: ("from", "to"),
    9: ("meter", "boundary"),
    10: ("meter", "boundary"),
    11: ("meter", "quarter"),
    12: ("meter", "from", "to"),
    13: ("meter", "boundary"),
    14: ("meter", "quarter"),
    15: ("hand", "zone", "from", "to"),
    16: ("zone", "from", "to"),
    17: ("from", "to"),
    18: ("meter",),
    19: ("meter", "most"),
    20: ("boundary",),
    21: ("from", "to"),
    22: (),
}


def call_end(calls, at):
    if calls[at] == PROFILE:
        return at + 2 + calls[at + 1]
    return at + 1 + len(ARGUMENTS[calls[at]])


def named_arguments(call):
    if call[0] == PROFILE:
        return {"weights": call[2:]}
    return dict(zip(ARGUMENTS[call[0]], call[1:]))


def is_within(name, number):
    limits = LIMITS[name]
    return limits[0] <= number <= limits[1]


def are_weights(row):
    return 1 <= len(row) <= MOST_WEIGHTS and all([is_within("weights", weight) for weight in row])


def all_within(given):
    if "weights" in given:
        return are_weights(given["weights"])
    return all([is_within(name, number) for name, number in given.items()])


def is_backwards(given):
    return "to" in given and given["to"] < given["from"]
