"""The calls that change what is kept. Each looks for a refusal first, so that a refused call changes nothing."""

from quartermeters.hands import HAND_COUNT, listed_by_hand, nets_between
from quartermeters.records import (
    Dial,
    Meter,
    Profile,
    ZONE_TO_ZONE,
    has_reading_from,
    is_removed,
    last_dial,
    meter_of,
    power_of_ten,
    readable_dial,
    unread_meters,
)
from quartermeters.refusals import (
    ACCEPTED,
    CANNOT_SHOW,
    FULL,
    LOCKED,
    NOT_COUNTING,
    NO_PROFILE,
    READ_LATER,
    SAME_VERSION,
    UNREAD,
    WRONG_KIND,
)

MOST_PROFILES = 8
MOST_METERS = 32
MOST_READINGS = 256
MOST_DIALS = 8
MOST_TOLD = 64
MOST_PERIODS = 16


def add_profile(book, given):
    # Profile 0 is kept with the others but doesn't count.
    if len(book.profiles) - 1 == MOST_PROFILES:
        return [FULL]
    book.profiles.append(Profile(given["weights"]))
    return [ACCEPTED, len(book.profiles) - 1]


def zones_fit(given):
    if given["kind"] == ZONE_TO_ZONE:
        return given["zone"] != given["second"]
    return given["second"] == 0


def install_refusal(book, given):
    if not zones_fit(given):
        return WRONG_KIND
    if given["profile"] >= len(book.profiles):
        return NO_PROFILE
    if given["boundary"] < book.lock:
        return LOCKED
    if given["start"] >= power_of_ten(given["digits"]):
        return CANNOT_SHOW
    if len(book.meters) == MOST_METERS:
        return FULL
    return ACCEPTED


def new_dial(given):
    return Dial(given["boundary"], given["start"], given["digits"], given["factor"])


def install_meter(book, given):
    refusal = install_refusal(book, given)
    if refusal != ACCEPTED:
        return [refusal]
    meter = Meter(
        given["kind"], given["zone"], given["second"], given["profile"], given["rate"], new_dial(given)
    )
    book.meters.append(meter)
    return [ACCEPTED, len(book.meters)]


def read_refusal(book, meter, given):
    boundary = given["boundary"]
    if boundary <= book.lock:
        return LOCKED
    dial = readable_dial(meter, boundary)
    if dial is None:
        return NOT_COUNTING
    # A struck reading's -1 is below every size, so it is never too great.
    if given["value"] >= dial.size:
        return CANNOT_SHOW
    if given["version"] in meter.readings.get(boundary, {}):
        return SAME_VERSION
    if book.reading_count == MOST_READINGS:
        return FULL
    return ACCEPTED


def read_meter(book, given):
    meter = meter_of(book, given)
    refusal = read_refusal(book, meter, given)
    if refusal != ACCEPTED:
        return [refusal]
    versions = meter.readings.setdefault(given["boundary"], {})
    versions[given["version"]] = given["value"]
    book.reading_count = book.reading_count + 1
    return [ACCEPTED]


# What swap and remove have in common: the last dial ends.
def end_refusal(book, meter, given):
    boundary = given["boundary"]
    if boundary <= book.lock:
        return LOCKED
    if is_removed(meter) or boundary <= last_dial(meter).start_boundary:
        return NOT_COUNTING
    if has_reading_from(meter, boundary):
        return READ_LATER
    if given["end"] >= last_dial(meter).size:
        return CANNOT_SHOW
    return ACCEPTED


def end_last_dial(meter, given):
    dial = last_dial(meter)
    dial.end_boundary = given["boundary"]
    dial.end_value = given["end"]


def swap_refusal(book, meter, given):
    refusal = end_refusal(book, meter, given)
    if refusal != ACCEPTED:
        return refusal
    if given["start"] >= power_of_ten(given["digits"]):
        return CANNOT_SHOW
    if len(meter.dials) == MOST_DIALS:
        return FULL
    return ACCEPTED


def swap_dial(book, given):
    meter = meter_of(book, given)
    refusal = swap_refusal(book, meter, given)
    if refusal != ACCEPTED:
        return [refusal]
    end_last_dial(meter, given)
    meter.dials.append(new_dial(given))
    return [ACCEPTED]


def remove_meter(book, given):
    meter = meter_of(book, given)
    refusal = end_refusal(book, meter, given)
    if refusal != ACCEPTED:
        return [refusal]
    end_last_dial(meter, given)
    return [ACCEPTED]


def set_rate(book, given):
    meter = meter_of(book, given)
    meter.rate = given["rate"]
    return [ACCEPTED]


def assign_refusal(book, meter, given):
    if meter.kind == ZONE_TO_ZONE:
        return WRONG_KIND
    if given["quarter"] < book.lock:
        return LOCKED
    if given["quarter"] not in meter.told and book.told_count == MOST_TOLD:
        return FULL
    return ACCEPTED


def assign_hand(book, given):
    meter = meter_of(book, given)
    refusal = assign_refusal(book, meter, given)
    if refusal != ACCEPTED:
        return [refusal]
    if given["quarter"] not in meter.told:
        book.told_count = book.told_count + 1
    meter.told[given["quarter"]] = given["hand"]
    return [ACCEPTED]


def move_lock(book, given):
    boundary = given["boundary"]
    if boundary <= book.lock:
        return [LOCKED]
    if len(unread_meters(book, boundary)) > 0:
        return [UNREAD]
    book.lock = boundary
    return [ACCEPTED]


def publish_period(book, given):
    period = (given["from"], given["to"])
    if period not in book.periods and len(book.periods) == MOST_PERIODS:
        return [FULL]
    nets = nets_between(book, given["from"], given["to"])
    before = book.periods.get(period, [0] * HAND_COUNT)
    book.periods[period] = nets
    return [ACCEPTED] + listed_by_hand([net - earlier for net, earlier in zip(nets, before)])


# By the call's number.
CHANGES = {
    0: add_profile,
    1: install_meter,
    2: read_meter,
    3: swap_dial,
    4: remove_meter,
    5: set_rate,
    6: assign_hand,
    7: move_lock,
    8: publish_period,
}


def change(book, number, given):
    return CHANGES[number](book, given)
