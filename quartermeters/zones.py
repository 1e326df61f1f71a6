"""What goes into a zone and out of it: in one hand, or whoever's hands the meters are in."""

from quartermeters.flow import course_of, through_between
from quartermeters.hands import through_in_hand
from quartermeters.records import INTO_ZONE, ZONE_TO_ZONE


# A hand's in of a zone, or its out, by the meters' kind.
def total_of_kind(book, kind, zone, hand, start, end):
    meters = [meter for meter in book.meters if meter.kind == kind and meter.zone == zone]
    return sum([through_in_hand(book, meter, hand, start, end) for meter in meters])


# 1 for a meter that counts into the zone, -1 for one that counts out of it, else 0.
def sign_in_zone(meter, zone):
    if meter.kind == ZONE_TO_ZONE and meter.second == zone:
        return 1
    if meter.zone != zone:
        return 0
    return 1 if meter.kind == INTO_ZONE else -1


def rest_between(book, zone, start, end):
    rest = 0
    for meter in book.meters:
        rest = rest + sign_in_zone(meter, zone) * through_between(course_of(book, meter), start, end)
    return rest
