"""The calls that ask and change nothing."""

from quartermeters.flow import course_of, gaps_of, how_known, through_between, through_by
from quartermeters.hands import hand_at, listed_by_hand, nets_between
from quartermeters.records import INTO_ZONE, OUT_OF_ZONE, meter_of, standing_reading, unread_meters
from quartermeters.refusals import ACCEPTED
from quartermeters.zones import rest_between, total_of_kind


def asked_course(book, given):
    return course_of(book, meter_of(book, given))


def ask_standing(book, given):
    reading = standing_reading(meter_of(book, given), given["boundary"])
    if reading is None:
        return [ACCEPTED, 0]
    return [ACCEPTED, reading[0], reading[1]]


def ask_history(book, given):
    versions = meter_of(book, given).readings.get(given["boundary"], {})
    answer = [ACCEPTED, len(versions)]
    for version in sorted(versions):
        answer.append(version)
        answer.append(versions[version])
    return answer


def ask_value(book, given):
    quarter = given["quarter"]
    course = asked_course(book, given)
    return [ACCEPTED, how_known(course, quarter), through_between(course, quarter, quarter + 1)]


def ask_between(book, given):
    return [ACCEPTED, through_between(asked_course(book, given), given["from"], given["to"])]


def ask_through(book, given):
    return [ACCEPTED, through_by(asked_course(book, given), given["boundary"])]


def ask_hand(book, given):
    return [ACCEPTED, hand_at(meter_of(book, given), given["quarter"])]


def ask_total(book, given):
    totals = [
        total_of_kind(book, kind, given["zone"], given["hand"], given["from"], given["to"])
        for kind in (INTO_ZONE, OUT_OF_ZONE)
    ]
    return [ACCEPTED] + totals


def ask_rest(book, given):
    return [ACCEPTED, rest_between(book, given["zone"], given["from"], given["to"])]


def ask_nets(book, given):
    return [ACCEPTED] + listed_by_hand(nets_between(book, given["from"], given["to"]))


def ask_gaps(book, given):
    gaps = gaps_of(asked_course(book, given))
    answer = [ACCEPTED, len(gaps)]
    for start, end, amount in gaps:
        answer.extend([start, end, amount])
    return answer


def ask_doubt(book, given):
    doubtful = [gap for gap in gaps_of(asked_course(book, given)) if gap[2] > given["most"] * (gap[1] - gap[0])]
    answer = [ACCEPTED, len(doubtful)]
    for start, end, amount in doubtful:
        answer.extend([start, end])
    return answer


def ask_unread(book, given):
    unread = unread_meters(book, given["boundary"])
    return [ACCEPTED, len(unread)] + unread


def ask_published(book, given):
    nets = book.periods.get((given["from"], given["to"]))
    if nets is None:
        return [ACCEPTED, 0]
    return [ACCEPTED, 1] + listed_by_hand(nets)


def ask_state(book, given):
    return [
        ACCEPTED,
        # Profile 0 is kept with the others but doesn't count.
        len(book.profiles) - 1,
        len(book.meters),
        book.reading_count,
        book.told_count,
        book.lock,
        len(book.periods),
    ]


# By the call's number.
QUESTIONS = {
    9: ask_standing,
    10: ask_history,
    11: ask_value,
    12: ask_between,
    13: ask_through,
    14: ask_hand,
    15: ask_total,
    16: ask_rest,
    17: ask_nets,
    18: ask_gaps,
    19: ask_doubt,
    20: ask_unread,
    21: ask_published,
    22: ask_state,
}


def question(book, number, given):
    return QUESTIONS[number](book, given)
