"""The list that is handed in, the one that is given back, and what is kept between two times."""

import contextlib
import io
import sys
import unittest

from quartermeters.desk import answers
from tests.calls import (
    assign, between, doubt, gaps, hand, install, joined, nets, parted, profile, publish, published, rate, read, remove,
    rest, standing, state, swap, through, total, unread, value,
)

QUESTIONS = [
    between(1, 0, 9), through(1, 9), hand(1, 3), total(0, 0, 0, 9), rest(0, 0, 9), nets(0, 9), gaps(1), doubt(1, 0),
    unread(4), published(0, 9), state(),
]


class Interface(unittest.TestCase):
    def test_one_behind_another(self):
        calls = [0, 2, 1, 3, 1, 0, 5, 0, 0, 3, 1, 0, 1, 4, 2, 1, 4, 1, 8, 9, 1, 4, 8, 0, 4, 11, 1, 1, 11, 2, 1]
        self.assertEqual(answers(calls), [2, 0, 1, 2, 0, 1, 1, 0, 3, 0, 1, 8, 4, 0, 1, 0, -8, 3, 0, 2, 3, 1, -3])

    def test_each_question_stands_with_its_numbers_alone(self):
        calls = [1, 1, 5, 0, 0, 3, 1, 0, 0, 4, 22, 2, 1, 4, 1, 8, 12, 1, 2, 5, 13, 1, 3, 6, 1, 2, 9, 14, 1, 2]
        calls += [15, 9, 5, 1, 4, 16, 5, 0, 5, 17, 0, 5, 18, 1, 19, 1, 1, 20, 3, 8, 0, 4, 21, 0, 4, 22]
        told = [2, 0, 1, 7, 0, 0, 1, 0, 0, 0, 0, 1, 0, 2, 0, 8, 2, 0, 6, 1, 0, 2, 0, 9]
        told += [3, 0, 4, 0, 2, 0, 12, 6, 0, 2, 0, 4, 9, 8, 5, 0, 1, 0, 4, 8, 4, 0, 1, 0, 4, 3, 0, 1, 1]
        told += [6, 0, 2, 0, 4, 9, 4, 7, 0, 1, 2, 0, 4, 9, 4, 7, 0, 0, 1, 1, 1, 0, 1]
        self.assertEqual(answers(calls), told)

    def test_an_empty_row_and_a_long_one_are_stepped_over(self):
        self.assertEqual(answers([0, 0, 7, 3, 7, 3]), [1, -1, 1, 0, 1, -5])
        self.assertEqual(answers([0, 200] + [8] * 200 + [0, 1, 8, 8, 0, 0]), [1, -1, 2, 0, 1, 2, 0, 0])

    def test_any_call_may_be_the_first_and_only_one(self):
        far = 10 ** 18
        self.assertEqual(answers([8, 0, 10000]), [2, 0, 0])
        self.assertEqual(answers([11, 1, 0]), [1, -3])
        self.assertEqual(answers([11, far, -far]), [1, -1])
        self.assertEqual(answers([0, 1, far]), [1, -1])
        self.assertEqual(answers([22]), [7, 0, 0, 0, 0, 0, 0, 0])
        self.assertEqual(answers([21, 4, 0]), [2, 0, 0])
        self.assertEqual(answers([20, 10000]), [2, 0, 0])
        self.assertEqual(answers([20, -far]), [1, -1])
        for number, count in ((12, 3), (13, 2), (14, 2), (18, 1), (19, 2)):
            self.assertEqual(answers([number] + [1] * count), [1, -3])
            self.assertEqual(answers([number] + [far] * count), [1, -1])
        for number, count, told in ((15, 4, [3, 0, 0, 0]), (16, 3, [2, 0, 0]), (17, 2, [2, 0, 0])):
            self.assertEqual(answers([number] + [1] * count), told)
            self.assertEqual(answers([number] + [-far] * count), [1, -1])

    def test_400_calls(self):
        calls = [install(kind=1, digits=9, rate=7)] + [read(1, place, 1, 3 * place) for place in range(1, 257)]
        calls += [assign(1, 4 * place, place % 33) for place in range(64)]
        calls += [publish(0, 10000)] * 20 + [value(1, 255), standing(1, 256)] + [value(1, 9999)] * 57
        self.assertEqual(len(calls), 400)
        told = parted(answers(joined(calls)))
        self.assertEqual(len(told), 400)
        self.assertEqual(told[:321], [[0, 1]] + [[0]] * 320)
        expected = [12 * (1 + (holder < 31)) for holder in range(33)]
        expected[30] += (10000 - 256) * 7
        self.assertEqual(told[321], [0, 33] + [number for net in enumerate(expected) for number in net])
        self.assertEqual(told[322:341], [[0, 0]] * 19)
        self.assertEqual(told[341:], [[0, 1, 3], [0, 1, 768]] + [[0, 3, 7]] * 57)

    def test_400_calls_with_long_answers(self):
        calls = [install(digits=9)] + [read(1, place, 1, 3 * place) for place in range(1, 257)] + [gaps(1)] * 143
        self.assertEqual(len(calls), 400)
        told = parted(answers(joined(calls)))
        self.assertEqual(told[257:], [[0, 256] + joined([[at, at + 1, 3] for at in range(256)])] * 143)

    def test_many_long_rows(self):
        calls = joined([profile(*[1] * 38)] * 400)
        self.assertEqual(len(calls), 16000)
        self.assertEqual(parted(answers(calls)), [[0, number] for number in range(1, 9)] + [[-4]] * 392)

    def test_the_list_handed_in_stays_as_it_is(self):
        calls = joined([profile(3, 4), install(profile=1), read(1, 5, 1, 4), publish(0, 9), publish(5, 1), [7, -1]])
        copy = list(calls)
        answers(calls)
        self.assertEqual(calls, copy)

    def test_nothing_is_kept_from_one_time_to_the_next(self):
        calls = joined([profile(3, 4), install(profile=1, rate=2), read(1, 5, 1, 4), assign(1, 2, 3), publish(0, 9),
                        [7, 5], install(boundary=4)])
        first = answers(calls)
        told = list(first)
        first.append(9)
        self.assertEqual(answers(calls), told)
        self.assertEqual(answers([11, 1, 0]), [1, -3])
        self.assertEqual(answers(calls), told)

    def test_whole_numbers_in_a_list(self):
        told = answers(joined([install(rate=2), publish(0, 9), value(1, 3), standing(1, 3), [7, 0], *QUESTIONS]))
        self.assertIs(type(told), list)
        for number in told:
            self.assertIs(type(number), int)

    def test_prints_and_imports_nothing(self):
        before = set(sys.modules)
        with contextlib.redirect_stdout(io.StringIO()) as out, contextlib.redirect_stderr(io.StringIO()) as err:
            answers(joined([profile(1), install(), read(1, 5, 1, 4), publish(0, 9), value(1, 1), [7, -1], rate(1, 4),
                            swap(1, 7, 4), assign(1, 3, 3), *QUESTIONS, remove(1, 9, 4), *QUESTIONS]))
        self.assertEqual(out.getvalue() + err.getvalue(), "")
        self.assertEqual(set(sys.modules), before)


if __name__ == "__main__":
    unittest.main()
