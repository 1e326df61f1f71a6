"""Whose hand a meter is in, what goes through in a hand, and what each hand's net comes to."""

from quartermeters.flow import course_of, through_between
from quartermeters.records import INTO_ZONE, OUT_OF_ZONE

HAND_COUNT = 33


# The parts of a stretch within each of which the meter stays in one hand: (start, end, hand).
# Quarters' values add up without rounding, so a part can be taken in one step.
def parts_by_hand(meter, start, end):
    parts = []
    hand = 0
    begun = start
    for quarter in sorted(meter.told):
        if quarter >= end:
            break
        if quarter > begun:
            parts.append((begun, quarter, hand))
            begun = quarter
        hand = meter.told[quarter]
    parts.append((begun, end, hand))
    return parts


# One quarter has one part only.
def hand_at(meter, quarter):
    return parts_by_hand(meter, quarter, quarter + 1)[0][2]


def through_in_hand(book, meter, hand, start, end):
    course = course_of(book, meter)
    parts = [part for part in parts_by_hand(meter, start, end) if part[2] == hand]
    return sum([through_between(course, part[0], part[1]) for part in parts])


def sign_of(meter):
    if meter.kind == INTO_ZONE:
        return 1
    if meter.kind == OUT_OF_ZONE:
        return -1
    return 0


# By hand, from 0 on. A net is over all zones, so zones aren't told apart.
def nets_between(book, start, end):
    nets = [0] * HAND_COUNT
    for meter in book.meters:
        sign = sign_of(meter)
        course = course_of(book, meter)
        for begun, ended, hand in parts_by_hand(meter, start, end):
            nets[hand] = nets[hand] + sign * through_between(course, begun, ended)
    return nets


# As answers tell them: how many aren't 0, then each of these behind its hand.
def listed_by_hand(numbers):
    listed = [len([number for number in numbers if number != 0])]
    for hand, number in enumerate(numbers):
        if number != 0:
            listed.append(hand)
            listed.append(number)
    return listed
