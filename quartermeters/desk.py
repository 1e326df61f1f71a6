"""Where calls come in, one behind another in one list, and their answers go out in another."""

from quartermeters.arguments import all_within, call_end, is_backwards, named_arguments
from quartermeters.changes import change
from quartermeters.questions import question
from quartermeters.records import Book, is_missing
from quartermeters.refusals import BACKWARDS, NO_METER, OUT_OF_RANGE

FIRST_QUESTION = 9

# To this call a period that ends before it begins is one that was never published.
PUBLISHED = 21


def answer_call(book, call):
    given = named_arguments(call)
    if not all_within(given):
        return [OUT_OF_RANGE]
    # Whatever call names a meter looks for it before its other refusals.
    if "meter" in given and is_missing(book, given["meter"]):
        return [NO_METER]
    # In every call that refuses this, it comes next.
    if is_backwards(given) and call[0] != PUBLISHED:
        return [BACKWARDS]
    if call[0] < FIRST_QUESTION:
        return change(book, call[0], given)
    return question(book, call[0], given)


def answers(calls):
    book = Book()
    told = []
    at = 0
    while at < len(calls):
        end = call_end(calls, at)
        answer = answer_call(book, calls[at:end])
        told.append(len(answer))
        told.extend(answer)
        at = end
    return told
