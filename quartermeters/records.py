"""What is kept: profiles, meters with their dials and readings, told hands, the lock, periods.

A dial is what the document calls one of a meter's registers.
"""

STRUCK = -1

# The kinds of meters.
OUT_OF_ZONE = 0
INTO_ZONE = 1
ZONE_TO_ZONE = 2


class Profile:
    def __init__(self, weights):
        # Running sums, so that a stretch of any length is weighed without walking its quarters.
        self.sums = running_sums(weights)


class Dial:
    def __init__(self, boundary, value, digits, factor):
        self.start_boundary = boundary
        self.start_value = value
        self.size = power_of_ten(digits)
        self.factor = factor
        self.end_boundary = None
        self.end_value = None


class Meter:
    def __init__(self, kind, zone, second, profile, rate, dial):
        self.kind = kind
        self.zone = zone
        self.second = second
        self.profile = profile
        self.rate = rate
        self.dials = [dial]
        # By boundary, then by version: the value, or STRUCK.
        self.readings = {}
        # By quarter: the hand told for it.
        self.told = {}


class Book:
    def __init__(self):
        # One weight for all quarters: the profile that is always there.
        self.profiles = [Profile([1])]
        self.meters = []
        self.reading_count = 0
        self.told_count = 0
        self.lock = 0
        # By (from, to): the nets published last, by hand.
        self.periods = {}


def running_sums(numbers):
    sums = [0]
    for number in numbers:
        sums.append(sums[-1] + number)
    return sums


def power_of_ten(digits):
    power = 1
    for digit in range(digits):
        power = power * 10
    return power


def weight_before(profile, boundary):
    count = len(profile.sums) - 1
    return boundary // count * profile.sums[-1] + profile.sums[boundary % count]


def weight_between(profile, start, end):
    return weight_before(profile, end) - weight_before(profile, start)


def is_missing(book, number):
    return number > len(book.meters)


def meter_of(book, given):
    return book.meters[given["meter"] - 1]


def last_dial(meter):
    return meter.dials[-1]


def is_removed(meter):
    return last_dial(meter).end_boundary is not None


# The dial that can be read at a boundary: at its own start and end it can't be.
def readable_dial(meter, boundary):
    for dial in meter.dials:
        if dial.start_boundary < boundary and (dial.end_boundary is None or boundary < dial.end_boundary):
            return dial
    return None


# The version and the value that stand, or None.
def standing_reading(meter, boundary):
    versions = meter.readings.get(boundary, {})
    if len(versions) == 0:
        return None
    latest = max(versions)
    if versions[latest] == STRUCK:
        return None
    return (latest, versions[latest])


def has_reading_from(meter, boundary):
    return any([read_at >= boundary for read_at in meter.readings])


def knots_of(meter):
    knots = [dial.start_boundary for dial in meter.dials]
    knots.extend([boundary for boundary in meter.readings if standing_reading(meter, boundary) is not None])
    if is_removed(meter):
        knots.append(last_dial(meter).end_boundary)
    return sorted(knots)


def is_unread(meter, boundary):
    knots = knots_of(meter)
    if knots[0] >= boundary or boundary in knots:
        return False
    return not (is_removed(meter) and knots[-1] < boundary)


def unread_meters(book, boundary):
    return [number for number, meter in enumerate(book.meters, start=1) if is_unread(meter, boundary)]
