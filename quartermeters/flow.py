"""How much goes through a meter: between its knots, within a stretch, behind the last knot."""

from quartermeters.records import (
    is_removed,
    knots_of,
    last_dial,
    running_sums,
    standing_reading,
    weight_between,
)

NOT_THERE = 0
MEASURED = 1
SPREAD = 2
ESTIMATED = 3


# What a meter's readings come to at one time, worked out once for many boundaries.
class Course:
    def __init__(self, knots, amounts, profile, tail, removed):
        self.knots = knots
        # What goes through between each knot and the next one.
        self.amounts = amounts
        # What is through by each knot.
        self.totals = running_sums(amounts)
        self.profile = profile
        # What goes through in each quarter behind the last knot.
        self.tail = tail
        self.removed = removed


def course_of(book, meter):
    knots = knots_of(meter)
    amounts = [amount_between(meter, start, end) for start, end in zip(knots, knots[1:])]
    return Course(knots, amounts, book.profiles[meter.profile], tail_of(meter), is_removed(meter))


def tail_of(meter):
    if is_removed(meter):
        return 0
    return meter.rate * last_dial(meter).factor


# start and end are neighbouring knots, so one dial counts all the way.
def amount_between(meter, start, end):
    dial = dial_from(meter, start)
    counted = shown_value(meter, dial, end) - shown_value(meter, dial, start)
    return counted % dial.size * dial.factor


def dial_from(meter, boundary):
    return [dial for dial in meter.dials if dial.start_boundary <= boundary][-1]


def shown_value(meter, dial, boundary):
    if boundary == dial.start_boundary:
        return dial.start_value
    if boundary == dial.end_boundary:
        return dial.end_value
    return standing_reading(meter, boundary)[1]


def through_by(course, boundary):
    last = course.knots[-1]
    if boundary <= course.knots[0]:
        return 0
    if boundary >= last:
        return course.totals[-1] + course.tail * (boundary - last)
    place = len([knot for knot in course.knots if knot <= boundary]) - 1
    return course.totals[place] + through_within(course, place, boundary)


def through_within(course, place, boundary):
    start = course.knots[place]
    end = course.knots[place + 1]
    amount = course.amounts[place]
    weight = weight_between(course.profile, start, end)
    if weight == 0:
        return amount * (boundary - start) // (end - start)
    return amount * weight_between(course.profile, start, boundary) // weight


def through_between(course, start, end):
    return through_by(course, end) - through_by(course, start)


# Each pair of neighbouring knots, and what goes through between them.
def gaps_of(course):
    return list(zip(course.knots, course.knots[1:], course.amounts))


def how_known(course, quarter):
    if quarter < course.knots[0]:
        return NOT_THERE
    if quarter >= course.knots[-1]:
        return NOT_THERE if course.removed else ESTIMATED
    if quarter in course.knots and quarter + 1 in course.knots:
        return MEASURED
    return SPREAD
