"""The calls that ask and change nothing."""

from quartermeters.flow import course_of, how_known, through_between
from quartermeters.records import meter_of, standing_reading
from quartermeters.refusals import ACCEPTED


def ask_standing(book, given):
    reading = standing_reading(meter_of(book, given), given["boundary"])
    if reading is None:
        return [ACCEPTED, 0]
    return [ACCEPTED, reading[0], reading[1]]


def ask_history(book, given):
    versions = meter_of(book, given).readings.get(given["boundary"], {})
    answer = [ACCEPTED, len(versions)]
    for version in sorted(versions):
        answer.append(version)
        answer.append(versions[version])
    return answer


def ask_value(book, given):
    quarter = given["quarter"]
    course = course_of(book, meter_of(book, given))
    return [ACCEPTED, how_known(course, quarter), through_between(course, quarter, quarter + 1)]


# By the call's number.
QUESTIONS = {
    9: ask_standing,
    10: ask_history,
    11: ask_value,
}


def question(book, number, given):
    return QUESTIONS[number](book, given)
