"""Each refusal, which of two comes first, that -1 comes before all, that a refused call changes nothing."""

import unittest

from tests.calls import (
    RANGES, ask, assign, between, doubt, gaps, hand, history, install, last, lock, nets, profile, publish, published,
    put_in, rate, read, remove, rest, standing, state, swap, through, total, unread, value,
)

FAR = 10 ** 18

EIGHT_PROFILES = [profile(1)] * 8
ALL_METERS = [install()] * 32
ALL_READINGS = [install(digits=9)] + [read(1, boundary, 1, boundary) for boundary in range(1, 257)]
EIGHT_DIALS = [install()] + [swap(1, boundary, 1) for boundary in range(10, 80, 10)]
ALL_TOLD = [install(), install()] + [assign(1 + told % 2, told, told % 33) for told in range(64)]
ALL_PERIODS = [publish(0, end) for end in range(16)]
LOCKED = [lock(20), install(boundary=20, start=5)]
REMOVED = [install(), remove(1, 10, 4)]
SWAPPED = [install(), swap(1, 10, 4, digits=2)]

# What stands before, the call, its refusal.
CASES = [
    (EIGHT_PROFILES, profile(1, 2), -4),

    ([], install(kind=2, zone=3, second=3), -12),
    ([], install(kind=2, zone=0, second=0), -12),
    ([], install(kind=0, second=1), -12),
    ([], install(kind=1, zone=7, second=7), -12),
    ([], install(kind=0, second=1, profile=1), -12),
    ([], install(profile=1), -2),
    ([profile(1)] * 7, install(profile=8), -2),
    ([lock(5)], install(profile=1, boundary=4), -2),
    ([lock(5)], install(boundary=4), -5),
    ([lock(10000)], install(boundary=9999), -5),
    ([lock(5)], install(boundary=4, digits=1, start=10), -5),
    ([], install(digits=1, start=10), -7),
    ([], install(digits=8, start=100000000), -7),
    (ALL_METERS, install(digits=1, start=10), -7),
    (ALL_METERS, install(), -4),

    ([], read(1, 5, 1, 1), -3),
    ([install()], read(2, 5, 1, 1), -3),
    ([install()], read(32, 5, 1, 1), -3),
    ([install()], read(2, 0, 1, 1), -3),
    ([install(), read(1, 5, 1, 1), lock(5)], read(1, 5, 2, 2), -5),
    ([install(), read(1, 5, 1, 1), lock(5)], read(1, 4, 1, 2), -5),
    ([install()], read(1, 0, 1, 1), -5),
    (LOCKED, read(1, 20, 1, 1), -5),
    (LOCKED, read(1, 19, 1, 1), -5),
    ([install(boundary=5)], read(1, 5, 1, 1), -6),
    ([install(boundary=5)], read(1, 4, 1, 1), -6),
    ([install(boundary=5)], read(1, 4, 1, -1), -6),
    ([install(boundary=10000)], read(1, 10000, 1, 1), -6),
    (SWAPPED, read(1, 10, 1, 1), -6),
    (REMOVED, read(1, 10, 1, 1), -6),
    (REMOVED, read(1, 11, 1, 1), -6),
    ([install(boundary=5)], read(1, 5, 1, 1000), -6),
    ([install()], read(1, 5, 1, 1000), -7),
    ([install(digits=1)], read(1, 5, 1, 10), -7),
    (SWAPPED, read(1, 9, 1, 1000), -7),
    (SWAPPED, read(1, 11, 1, 100), -7),
    ([install(), read(1, 5, 1, 1)], read(1, 5, 1, 1000), -7),
    (ALL_READINGS[:1] + [install()] + ALL_READINGS[1:], read(2, 1, 1, 1000), -7),
    ([install(), read(1, 5, 3, 1)], read(1, 5, 3, 2), -8),
    ([install(), read(1, 5, 3, 1)], read(1, 5, 3, 1), -8),
    ([install(), read(1, 5, 3, 1)], read(1, 5, 3, -1), -8),
    ([install(), read(1, 5, 3, -1)], read(1, 5, 3, 1), -8),
    ([install(), read(1, 5, 3, -1), read(1, 5, 4, 1)], read(1, 5, 3, -1), -8),
    (ALL_READINGS, read(1, 256, 1, 1), -8),
    (ALL_READINGS, read(1, 256, 2, 1), -4),
    (ALL_READINGS, read(1, 257, 1, -1), -4),

    ([install()], swap(2, 5, 1), -3),
    ([install()], swap(2, 0, 1), -3),
    ([install(), read(1, 5, 1, 1), lock(5)], swap(1, 5, 1), -5),
    ([install()], swap(1, 0, 1), -5),
    (LOCKED, swap(1, 20, 6), -5),
    ([install(boundary=5)], swap(1, 5, 1), -6),
    ([install(boundary=5)], swap(1, 4, 1), -6),
    (SWAPPED, swap(1, 10, 1), -6),
    (SWAPPED, swap(1, 9, 1), -6),
    (REMOVED, swap(1, 11, 1), -6),
    (REMOVED, swap(1, 9, 1), -6),
    ([install(boundary=5), read(1, 8, 1, 1)], swap(1, 5, 1), -6),
    ([install(), read(1, 8, 1, 1)], swap(1, 8, 1), -9),
    ([install(), read(1, 8, 1, 1)], swap(1, 7, 1), -9),
    ([install(), read(1, 8, 1, -1)], swap(1, 8, 1), -9),
    ([install(), read(1, 8, 1, 1), read(1, 8, 2, -1)], swap(1, 1, 1), -9),
    ([install(), read(1, 8, 1, 1)], swap(1, 8, 1000), -9),
    ([install()], swap(1, 8, 1000), -7),
    ([install()], swap(1, 8, 999, start=1000), -7),
    ([install()], swap(1, 8, 999, start=10, digits=1), -7),
    (SWAPPED, swap(1, 18, 100), -7),
    (EIGHT_DIALS, swap(1, 80, 1000), -7),
    (EIGHT_DIALS, swap(1, 80, 1, start=1000), -7),
    (EIGHT_DIALS, swap(1, 80, 1), -4),

    ([install()], remove(2, 5, 1), -3),
    ([install()], remove(2, 0, 1), -3),
    ([install(), read(1, 5, 1, 1), lock(5)], remove(1, 5, 1), -5),
    ([install()], remove(1, 0, 1), -5),
    (LOCKED, remove(1, 20, 6), -5),
    ([install(boundary=5)], remove(1, 5, 1), -6),
    (SWAPPED, remove(1, 10, 1), -6),
    (REMOVED, remove(1, 11, 1), -6),
    (REMOVED, remove(1, 10, 4), -6),
    ([install(boundary=5), read(1, 8, 1, 1)], remove(1, 5, 1), -6),
    ([install(), read(1, 8, 1, 1)], remove(1, 8, 1), -9),
    ([install(), read(1, 8, 1, -1)], remove(1, 7, 1), -9),
    ([install(), read(1, 8, 1, 1)], remove(1, 8, 1000), -9),
    ([install()], remove(1, 8, 1000), -7),
    (SWAPPED, remove(1, 18, 100), -7),

    ([], rate(1, 5), -3),
    ([install()], rate(2, 5), -3),

    ([], assign(1, 5, 1), -3),
    ([install()], assign(2, 5, 1), -3),
    ([install(kind=2, second=1)], assign(1, 5, 1), -12),
    ([install(kind=2, second=1)], assign(1, 5, 0), -12),
    ([lock(20), install(kind=2, second=1, boundary=20)], assign(1, 19, 1), -12),
    (ALL_TOLD + [install(kind=2, second=1)], assign(3, 70, 1), -12),
    (LOCKED, assign(1, 19, 1), -5),
    ([install(boundary=20), assign(1, 3, 4), lock(20)], assign(1, 3, 4), -5),
    ([install(boundary=90)] * 2 + ALL_TOLD[2:] + [lock(80)], assign(1, 79, 1), -5),
    (ALL_TOLD, assign(1, 64, 1), -4),
    (ALL_TOLD, assign(2, 0, 1), -4),
    (ALL_TOLD, assign(1, 1, 0), -4),

    ([], lock(0), -5),
    ([lock(20)], lock(20), -5),
    ([lock(20)], lock(19), -5),
    ([install(), read(1, 20, 1, 1), lock(20)], lock(10), -5),
    ([install()], lock(1), -10),
    ([install(), read(1, 5, 1, 1)], lock(6), -10),
    ([install(), read(1, 5, 1, 1)], lock(4), -10),
    ([install(), read(1, 5, 1, 1), read(1, 5, 2, -1)], lock(5), -10),
    ([install(), read(1, 5, 1, 1), install()], lock(5), -10),
    ([install(kind=2, second=1)], lock(1), -10),
    (REMOVED, lock(9), -10),
    (SWAPPED, lock(11), -10),

    ([], publish(5, 4), -11),
    ([], publish(10000, 0), -11),
    (ALL_PERIODS, publish(5, 4), -11),
    (ALL_PERIODS, publish(0, 16), -4),
    (ALL_PERIODS, publish(1, 1), -4),

    ([], standing(1, 5), -3),
    ([install()], standing(2, 5), -3),
    ([], history(1, 5), -3),
    ([install()], history(32, 5), -3),
    ([], value(1, 5), -3),
    ([install()], value(2, 5), -3),

    ([], between(1, 4, 5), -3),
    ([install()], between(2, 4, 5), -3),
    ([install()], between(32, 4, 5), -3),
    ([install()], between(2, 5, 4), -3),
    ([install()], between(1, 5, 4), -11),
    ([install()], between(1, 10000, 0), -11),
    ([install(boundary=9)], between(1, 5, 4), -11),
    ([], through(1, 5), -3),
    ([install()], through(2, 5), -3),
    ([], hand(1, 5), -3),
    ([install(), assign(1, 5, 2)], hand(2, 5), -3),
    ([], total(0, 0, 5, 4), -11),
    ([install()], total(32, 7, 10000, 9999), -11),
    ([], rest(0, 5, 4), -11),
    ([install()], rest(7, 10000, 0), -11),
    ([], nets(5, 4), -11),
    ([install(rate=4)], nets(10000, 0), -11),
    ([], gaps(1), -3),
    (REMOVED, gaps(2), -3),
    ([], doubt(1, 0), -3),
    (REMOVED, doubt(2, 10 ** 12), -3),
]


class Refusals(unittest.TestCase):
    def test_each_is_answered_by_its_number_alone(self):
        for before, call, refusal in CASES:
            with self.subTest(before=before[:5], call=call):
                self.assertEqual(last(*before, call), [refusal])

    def test_out_of_range_comes_before_each(self):
        for before, call, refusal in CASES:
            for place, (least, most) in enumerate(RANGES.get(call[0], [])):
                for number in (least - 1, most + 1):
                    wrong = put_in(call, place, number)
                    with self.subTest(before=before[:5], call=wrong):
                        self.assertEqual(last(*before, wrong), [-1])

    def test_a_refused_call_changes_nothing(self):
        probes = [
            *[standing(1, boundary) for boundary in (1, 4, 5, 8, 256)],
            *[history(1, boundary) for boundary in (4, 5, 8, 256, 257)],
            *[value(meter, quarter) for meter in (1, 2, 32) for quarter in (0, 3, 4, 7, 9, 10, 19, 300)],
            publish(0, 15), publish(0, 9999), publish(0, 16), publish(4, 30),
            lock(2), rate(1, 7), value(1, 9999), assign(1, 5, 3), assign(1, 64, 3), publish(4, 30),
            read(1, 5, 3, 2), read(1, 256, 2, 1), swap(1, 300, 2), remove(1, 9000, 2), lock(9000),
            profile(4, 5), install(profile=1), install(boundary=9000), publish(0, 15), state(), unread(5), nets(0, 20),
            gaps(1), hand(1, 5), published(0, 15),
        ]
        for before, call, refusal in CASES:
            with self.subTest(before=before[:5], call=call):
                without = ask(*before, *probes)
                expected = without[:len(before)] + [[refusal], [refusal]] + without[len(before):]
                self.assertEqual(ask(*before, call, call, *probes), expected)


class Ranges(unittest.TestCase):
    # Calls that are accepted behind these, so that -1 has no other ground than the range.
    BEFORE = [profile(1), install(), install(boundary=30)]
    ACCEPTED = [
        install(), read(1, 5, 1, 1), swap(1, 5, 1), remove(1, 5, 1), rate(1, 1), assign(1, 5, 1), lock(5),
        publish(0, 5), standing(1, 5), history(1, 5), value(1, 5), between(1, 0, 5), through(1, 5), hand(1, 5),
        total(1, 1, 0, 5), rest(1, 0, 5), nets(0, 5), gaps(1), doubt(1, 5), unread(5), published(0, 5), state(),
    ]

    def test_every_argument_below_and_above(self):
        for call in self.ACCEPTED:
            for place, (least, most) in enumerate(RANGES[call[0]]):
                for number in (least - 1, most + 1, -FAR, FAR):
                    wrong = put_in(call, place, number)
                    with self.subTest(call=wrong):
                        self.assertEqual(last(*self.BEFORE, wrong), [-1])

    def test_before_any_meter_too(self):
        for call in self.ACCEPTED:
            for place, (least, most) in enumerate(RANGES[call[0]]):
                for number in (least - 1, most + 1, -FAR, FAR):
                    wrong = put_in(call, place, number)
                    with self.subTest(call=wrong):
                        self.assertEqual(ask(wrong), [[-1]])

    def test_a_wrong_number_comes_before_a_period_that_ends_too_soon(self):
        for call in (between(1, 5, 4), total(1, 1, 5, 4), rest(1, 5, 4), nets(5, 4), published(5, 4)):
            for place, (least, most) in enumerate(RANGES[call[0]]):
                for number in (least - 1, most + 1):
                    wrong = put_in(call, place, number)
                    with self.subTest(call=wrong):
                        self.assertEqual(last(*self.BEFORE, wrong), [-1])

    def test_the_edges_are_within(self):
        for call in self.ACCEPTED:
            for place, ends in enumerate(RANGES[call[0]]):
                for number in ends:
                    right = put_in(call, place, number)
                    with self.subTest(call=right):
                        self.assertNotEqual(last(*self.BEFORE, right), [-1])

    def test_calls_of_the_right_form_are_accepted(self):
        for call in self.ACCEPTED:
            before = self.BEFORE[:2] + ([read(1, 5, 2, 3)] if call[0] == 7 else self.BEFORE[2:])
            with self.subTest(call=call):
                self.assertEqual(last(*before, call)[0], 0)


class ProfileRows(unittest.TestCase):
    RIGHT = [[0], [1000], [7] * 96, [0] * 96, [0, 1000, 3]]
    WRONG = [[], [7] * 97, [7] * 200, [-1], [1001], [FAR], [-FAR], [7] * 95 + [1001], [-1] + [7] * 95, [3, -1, 3]]

    def test_rows(self):
        for row in self.RIGHT:
            with self.subTest(row=row):
                self.assertEqual(last(profile(*row)), [0, 1])
        for row in self.WRONG:
            with self.subTest(row=row):
                self.assertEqual(last(profile(*row)), [-1])

    def test_a_wrong_row_comes_before_eight_profiles(self):
        for row in self.WRONG:
            with self.subTest(row=row):
                self.assertEqual(last(*EIGHT_PROFILES, profile(*row)), [-1])

    def test_a_wrong_row_takes_no_number(self):
        for row in self.WRONG:
            with self.subTest(row=row):
                self.assertEqual(ask(profile(*row), install(profile=1), profile(1)), [[-1], [-2], [0, 1]])


if __name__ == "__main__":
    unittest.main()
