"""Questions over all meters: a zone's rest, who is unread, the state of what is kept."""

import unittest

from tests.calls import (
    ask, asked, assign, install, last, lock, profile, publish, rate, read, remove, rest, state, swap, unread,
)


class Rest(unittest.TestCase):
    def test_no_meters(self):
        self.assertEqual(ask(rest(0, 0, 10000), rest(7, 5, 5)), [[0, 0]] * 2)

    def test_each_kind(self):
        self.assertEqual(last(install(kind=1, zone=3, rate=5), rest(3, 2, 6)), [0, 20])
        self.assertEqual(last(install(kind=0, zone=3, rate=5), rest(3, 2, 6)), [0, -20])
        before = [install(kind=2, zone=3, second=4, rate=5)]
        self.assertEqual(asked(before, rest(3, 2, 6), rest(4, 2, 6), rest(5, 2, 6)), [[-20], [20], [0]])

    def test_zone_0_is_second_zone_of_kind_2_alone(self):
        before = [install(kind=1, zone=3, rate=5), install(kind=0, zone=3, rate=7)]
        self.assertEqual(last(*before, rest(0, 0, 1)), [0, 0])
        self.assertEqual(last(*before, install(kind=2, zone=3, second=0, rate=9), rest(0, 0, 1)), [0, 9])
        self.assertEqual(last(*before, install(kind=2, zone=0, second=3, rate=9), rest(0, 0, 1)), [0, -9])

    def test_all_three_kinds(self):
        before = [install(kind=1, zone=1, rate=100), install(kind=0, zone=1, rate=20)]
        before += [install(kind=2, zone=1, second=2, rate=3), install(kind=2, zone=2, second=1, rate=7000)]
        before += [install(kind=1, zone=2, rate=1), install(kind=0, zone=5, rate=50000)]
        self.assertEqual(asked(before, *[rest(zone, 4, 5) for zone in (0, 1, 2, 5)]),
                         [[0], [100 - 20 - 3 + 7000], [1 + 3 - 7000], [-50000]])

    def test_first_zone_of_one_and_second_zone_of_another(self):
        before = [install(kind=2, zone=1, second=2, rate=3), install(kind=2, zone=2, second=3, rate=5)]
        self.assertEqual(asked(before, *[rest(zone, 0, 10) for zone in (1, 2, 3)]), [[-30], [-20], [50]])

    def test_whoever_has_it_in_hand(self):
        before = [install(kind=1, rate=5), install(rate=2)]
        self.assertEqual(last(*before, assign(1, 3, 4), assign(2, 5, 9), rest(0, 0, 10)), [0, 30])

    def test_from_equal_to_to(self):
        self.assertEqual(asked([install(rate=4)], rest(0, 5, 5), rest(0, 0, 0), rest(0, 10000, 10000)), [[0]] * 3)

    def test_all_of_time(self):
        self.assertEqual(last(*[install(factor=10000, rate=1000000)] * 32, rest(0, 0, 10000)), [0, -32 * 10 ** 14])

    def test_within_stretches_each_rounded_down(self):
        before = [install(kind=1), install(kind=0), read(1, 4, 1, 10), read(2, 3, 1, 5)]
        # By boundary: 0 2 5 7 10 and 0 1 3 5 5.
        self.assertEqual(asked(before, rest(0, 0, 1), rest(0, 1, 2), rest(0, 1, 4)), [[1], [1], [4]])

    def test_over_all_zones_what_goes_from_zone_to_zone_adds_up_to_nothing(self):
        before = [install(kind=2, zone=zone, second=7 - zone, rate=zone + 1) for zone in range(8)]
        self.assertEqual(sum([answer[0] for answer in asked(before, *[rest(zone, 0, 9) for zone in range(8)])]), 0)


class Unread(unittest.TestCase):
    def test_no_meters(self):
        self.assertEqual(ask(unread(0), unread(10000)), [[0, 0]] * 2)

    def test_nothing_stands_there(self):
        self.assertEqual(asked([install(boundary=3)], unread(4), unread(10000)), [[1, 1]] * 2)

    def test_a_meter_that_starts_at_the_boundary_or_later(self):
        self.assertEqual(asked([install(boundary=3)], unread(3), unread(2), unread(0)), [[0]] * 3)

    def test_a_reading_that_stands_there(self):
        self.assertEqual(asked([install(), read(1, 5, 1, 4)], unread(4), unread(5), unread(6)), [[1, 1], [0], [1, 1]])

    def test_a_reading_that_is_struck(self):
        before = [install(), read(1, 5, 1, 4), read(1, 5, 2, -1)]
        self.assertEqual(last(*before, unread(5)), [0, 1, 1])
        self.assertEqual(last(*before, read(1, 5, 3, 0), unread(5)), [0, 0])

    def test_removed_at_it_before_it_and_behind_it(self):
        self.assertEqual(asked([install(), remove(1, 5, 4)], unread(4), unread(5), unread(6)), [[1, 1], [0], [0]])

    def test_swapped_at_it(self):
        self.assertEqual(asked([install(), swap(1, 5, 4)], unread(4), unread(5), unread(6)), [[1, 1], [0], [1, 1]])

    def test_every_kind_in_order_of_number(self):
        before = [install(kind=2, second=1), install(boundary=5), install(kind=1), install(), read(4, 5, 1, 3)]
        before += [install()]
        self.assertEqual(asked(before, unread(5), unread(6)), [[3, 1, 3, 5], [5, 1, 2, 3, 4, 5]])

    def test_all_meters(self):
        self.assertEqual(last(*[install()] * 32, unread(10000)), [0, 32] + list(range(1, 33)))

    def test_before_the_lock_too(self):
        before = [install(), read(1, 5, 1, 4), lock(5)]
        self.assertEqual(asked(before, unread(4), unread(5)), [[1, 1], [0]])

    def test_is_what_keeps_the_lock_from_it(self):
        before = [install(), install(boundary=4), read(1, 5, 1, 4), remove(2, 6, 3), swap(1, 8, 9)]
        for boundary in range(1, 10):
            with self.subTest(boundary=boundary):
                count = last(*before, unread(boundary))[1]
                self.assertEqual(last(*before, lock(boundary)), [-10] if count else [0])


class State(unittest.TestCase):
    def test_at_first(self):
        self.assertEqual(ask(state()), [[0, 0, 0, 0, 0, 0, 0]])

    def test_profiles(self):
        self.assertEqual(last(*[profile(1)] * 8, state()), [0, 8, 0, 0, 0, 0, 0])

    def test_meters(self):
        self.assertEqual(last(*[install()] * 32, state()), [0, 0, 32, 0, 0, 0, 0])
        self.assertEqual(last(install(), swap(1, 5, 4), remove(1, 8, 4), install(), state()), [0, 0, 2, 0, 0, 0, 0])

    def test_readings_of_all_versions_struck_ones_too(self):
        before = [install(), install(), read(1, 5, 1, 4), read(1, 5, 2, -1), read(1, 6, 1, 4), read(2, 5, 1, 4)]
        self.assertEqual(last(*before, state()), [0, 0, 2, 4, 0, 0, 0])

    def test_told_hands(self):
        before = [install(), install(), assign(1, 5, 7), assign(1, 5, 8), assign(1, 6, 0), assign(2, 5, 0)]
        self.assertEqual(last(*before, state()), [0, 0, 2, 0, 3, 0, 0])

    def test_the_lock(self):
        self.assertEqual(last(lock(5), state()), [0, 0, 0, 0, 0, 5, 0])
        self.assertEqual(last(lock(5), lock(10000), state()), [0, 0, 0, 0, 0, 10000, 0])

    def test_periods(self):
        self.assertEqual(last(publish(0, 4), publish(0, 5), publish(0, 4), publish(7, 7), state()),
                         [0, 0, 0, 0, 0, 0, 3])

    def test_all_six(self):
        before = [profile(1)] * 2 + [install()] * 3 + [read(1, at, 1, 4) for at in range(1, 5)]
        before += [read(meter, 4, 1, 1) for meter in (2, 3)] + [lock(4)]
        before += [assign(1, at, 4) for at in range(4, 9)] + [publish(0, at) for at in range(7)]
        self.assertEqual(last(*before, state()), [0, 2, 3, 6, 5, 4, 7])

    def test_refused_calls_count_for_nothing(self):
        refused = [profile(), install(profile=8), read(1, 5, 1, 1), swap(1, 4, 3), remove(1, 4, 3), rate(1, 3),
                   assign(1, 3, 4), lock(0), publish(5, 4)]
        told = ask(*refused, state())
        self.assertEqual([part[0] for part in told[:-1]], [-1, -2, -3, -3, -3, -3, -3, -5, -11])
        self.assertEqual(told[-1], [0, 0, 0, 0, 0, 0, 0])

    def test_at_every_limit(self):
        before = [profile(1)] * 8 + [install(digits=9)] * 32 + [read(1, at, 1, at) for at in range(1, 257)]
        before += [assign(2, at, at % 33) for at in range(64)] + [publish(0, at) for at in range(16)]
        over = [profile(1), install(), read(2, 1, 1, 1), assign(3, 1, 1), publish(0, 16)]
        told = ask(*before, state(), *over, state())
        self.assertEqual(told[-7:], [[0, 8, 32, 256, 64, 0, 16]] + [[-4]] * 5 + [[0, 8, 32, 256, 64, 0, 16]])


if __name__ == "__main__":
    unittest.main()
