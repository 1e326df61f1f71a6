"""Accepted calls: what they answer, what later calls show of them, and each limit at its edge."""

import unittest

from tests.calls import (
    ask, assign, history, install, last, lock, profile, publish, rate, read, remove, standing, swap, value, values,
)


class Profiles(unittest.TestCase):
    def test_numbers_up_to_eight(self):
        told = ask(*[profile(number) for number in range(1, 10)])
        self.assertEqual(told, [[0, number] for number in range(1, 9)] + [[-4]])

    def test_profile_0_is_always_there_and_weighs_1(self):
        self.assertEqual(values(1, range(4), install(profile=0), read(1, 4, 1, 8)), [(2, 2)] * 4)

    def test_each_number_stands_for_its_own_row(self):
        before = [profile(1, 0), profile(0, 1), install(profile=1), install(profile=2)]
        before += [read(1, 2, 1, 8), read(2, 2, 1, 8)]
        self.assertEqual(values(1, range(2), *before), [(2, 8), (2, 0)])
        self.assertEqual(values(2, range(2), *before), [(2, 0), (2, 8)])

    def test_the_last_of_eight_can_be_installed(self):
        before = [profile(1)] * 7 + [profile(3, 1)]
        self.assertEqual(last(*before, install(profile=8)), [0, 1])
        self.assertEqual(values(1, range(2), *before, install(profile=8), read(1, 2, 1, 4)), [(2, 3), (2, 1)])

    def test_a_row_of_one_weight(self):
        self.assertEqual(values(1, range(4), profile(500), install(profile=1), read(1, 4, 1, 8)), [(2, 2)] * 4)

    def test_a_row_of_96_weights_comes_again(self):
        before = [profile(*range(96)), install(profile=1, digits=9), read(1, 192, 1, 95 * 96)]
        for quarter in (0, 1, 95, 96, 97, 191):
            with self.subTest(quarter=quarter):
                self.assertEqual(values(1, [quarter], *before), [(2, quarter % 96)])


class Installing(unittest.TestCase):
    def test_numbers_up_to_thirty_two(self):
        told = ask(*[install(kind=number % 2, zone=number % 8) for number in range(33)])
        self.assertEqual(told, [[0, number] for number in range(1, 33)] + [[-4]])

    def test_kind_2_takes_two_unlike_zones(self):
        self.assertEqual(ask(install(kind=2, zone=0, second=7), install(kind=2, zone=7, second=0)), [[0, 1], [0, 2]])

    def test_at_the_lock_and_behind_it(self):
        self.assertEqual(last(lock(5), install(boundary=5)), [0, 1])
        self.assertEqual(last(lock(5), install(boundary=6)), [0, 1])
        self.assertEqual(last(lock(10000), install(boundary=10000)), [0, 1])

    def test_the_greatest_value_that_digits_show(self):
        for digits in range(1, 10):
            with self.subTest(digits=digits):
                self.assertEqual(last(install(digits=digits, start=10 ** digits - 1)), [0, 1])
                if digits < 9:
                    self.assertEqual(last(install(digits=digits, start=10 ** digits)), [-7])

    def test_a_removed_meter_keeps_its_number(self):
        self.assertEqual(last(install(), remove(1, 5, 5), install()), [0, 2])
        self.assertEqual(last(*[install()] * 32, remove(1, 5, 5), install()), [-4])


class Reading(unittest.TestCase):
    def test_answers_nothing_and_stands(self):
        self.assertEqual(ask(install(), read(1, 5, 3, 7), standing(1, 5)), [[0, 1], [0], [0, 3, 7]])

    def test_nothing_stands_elsewhere(self):
        before = [install(), install(), read(1, 5, 3, 7)]
        for call in (standing(1, 4), standing(1, 6), standing(2, 5), standing(1, 0), standing(1, 10000)):
            self.assertEqual(last(*before, call), [0, 0])

    def test_a_start_or_an_end_is_no_reading(self):
        self.assertEqual(ask(install(boundary=2, start=3), swap(1, 5, 4), remove(1, 9, 4), standing(1, 2),
                             standing(1, 5), standing(1, 9), history(1, 5))[3:], [[0, 0], [0, 0], [0, 0], [0, 0]])

    def test_the_greatest_version_counts_in_whatever_order_they_come(self):
        before = [install(), read(1, 5, 3, 7), read(1, 5, 9, 8), read(1, 5, 1, 6), read(1, 5, 4, -1)]
        self.assertEqual(last(*before, standing(1, 5)), [0, 9, 8])
        self.assertEqual(last(*before, history(1, 5)), [0, 4, 1, 6, 3, 7, 4, -1, 9, 8])

    def test_struck_behind_a_value(self):
        before = [install(), read(1, 5, 3, 7), read(1, 5, 4, -1)]
        self.assertEqual(last(*before, standing(1, 5)), [0, 0])
        self.assertEqual(last(*before, read(1, 5, 5, 0), standing(1, 5)), [0, 5, 0])
        self.assertEqual(last(*before, read(1, 5, 2, 0), standing(1, 5)), [0, 0])

    def test_struck_where_nothing_stood(self):
        self.assertEqual(ask(install(), read(1, 5, 1000000, -1), standing(1, 5), history(1, 5))[1:],
                         [[0], [0, 0], [0, 1, 1000000, -1]])

    def test_history_of_nothing(self):
        self.assertEqual(last(install(), read(1, 5, 1, 2), history(1, 6)), [0, 0])
        self.assertEqual(last(install(), install(), read(1, 5, 1, 2), history(2, 5)), [0, 0])

    def test_struck_in_a_register_of_one_digit(self):
        self.assertEqual(last(install(digits=1), read(1, 5, 1, -1)), [0])

    def test_just_inside_each_register(self):
        before = [install(boundary=3, digits=1), swap(1, 6, 4, digits=2), remove(1, 9, 50)]
        for boundary, shown, refusal in ((4, 9, 0), (5, 9, 0), (5, 10, -7), (7, 99, 0), (8, 99, 0), (8, 100, -7)):
            with self.subTest(boundary=boundary, shown=shown):
                self.assertEqual(last(*before, read(1, boundary, 1, shown)), [refusal])

    def test_just_behind_the_lock_and_at_the_end_of_time(self):
        before = [install(), read(1, 5, 1, 1), lock(5)]
        self.assertEqual(last(*before, read(1, 6, 1, 2)), [0])
        self.assertEqual(last(*before, read(1, 10000, 1, 2)), [0])

    def test_the_same_version_at_another_boundary_or_meter(self):
        before = [install(), install(), read(1, 5, 1, 1)]
        self.assertEqual(last(*before, read(1, 6, 1, 1)), [0])
        self.assertEqual(last(*before, read(2, 5, 1, 1)), [0])

    def test_256_readings_of_all_meters(self):
        before = [install(), install(boundary=1)]
        before += [read(1, 1 + place // 4, 1 + place % 4, place - 1) for place in range(128)]
        before += [read(2, 2 + place, 1, place) for place in range(127)]
        self.assertEqual(ask(*before, read(2, 200, 1, 1), read(2, 201, 1, 1), read(1, 201, 1, 1), history(2, 200),
                             history(2, 201))[-5:], [[0], [-4], [-4], [0, 1, 1, 1], [0, 0]])


class Swapping(unittest.TestCase):
    def test_the_next_register_counts_with_its_own_digits_and_factor(self):
        before = [install(start=5, factor=10, rate=3), swap(1, 2, 7, start=98, digits=2, factor=100)]
        self.assertEqual(last(*before), [0])
        before += [read(1, 4, 1, 0)]
        self.assertEqual(values(1, range(5), *before), [(2, 10), (2, 10), (2, 100), (2, 100), (3, 300)])

    def test_just_behind_the_start_and_the_lock(self):
        self.assertEqual(last(install(boundary=5), swap(1, 6, 1)), [0])
        self.assertEqual(last(install(), swap(1, 5, 1), swap(1, 6, 1)), [0])
        self.assertEqual(last(install(), read(1, 5, 1, 1), lock(5), swap(1, 6, 1)), [0])
        self.assertEqual(last(install(), swap(1, 10000, 1)), [0])

    def test_just_behind_a_reading(self):
        self.assertEqual(last(install(), read(1, 8, 1, 1), read(1, 7, 1, -1), swap(1, 9, 1)), [0])

    def test_another_meters_readings_are_no_hindrance(self):
        self.assertEqual(last(install(), install(), read(2, 8, 1, 1), swap(1, 8, 1)), [0])

    def test_the_greatest_values_that_both_show(self):
        self.assertEqual(last(install(digits=2), swap(1, 8, 99, start=9, digits=1)), [0])
        self.assertEqual(last(install(digits=9), swap(1, 8, 999999999, start=999999999, digits=9)), [0])

    def test_eight_registers(self):
        before = [install()] + [swap(1, 10 * count, count) for count in range(1, 7)]
        self.assertEqual(ask(*before, swap(1, 70, 7), swap(1, 80, 8), remove(1, 80, 8))[-3:], [[0], [-4], [0]])
        self.assertEqual(values(1, [0, 69, 70, 79], *before, swap(1, 70, 7, start=1), remove(1, 80, 11)),
                         [(2, 0), (2, 1), (2, 1), (2, 1)])

    def test_the_register_before_can_still_be_read(self):
        before = [install(), swap(1, 10, 20), read(1, 4, 1, 2), read(1, 9, 1, 19)]
        self.assertEqual(values(1, [0, 3, 4, 8, 9], *before), [(2, 0), (2, 1), (2, 3), (2, 4), (1, 1)])


class Removing(unittest.TestCase):
    def test_nothing_goes_through_behind_it(self):
        before = [install(rate=9), remove(1, 2, 6)]
        self.assertEqual(last(*before), [0])
        self.assertEqual(values(1, range(4), *before), [(2, 3), (2, 3), (0, 0), (0, 0)])

    def test_at_the_end_of_time(self):
        self.assertEqual(values(1, [9998, 9999], install(boundary=9999), remove(1, 10000, 6)), [(0, 0), (1, 6)])

    def test_it_can_be_read_before_its_end_and_rated(self):
        before = [install(), remove(1, 4, 6), read(1, 1, 1, 3), rate(1, 50)]
        self.assertEqual(values(1, range(5), *before), [(1, 3), (2, 1), (2, 1), (2, 1), (0, 0)])

    def test_assigned_behind_its_end(self):
        self.assertEqual(last(install(), remove(1, 4, 6), assign(1, 9, 2)), [0])


class Rating(unittest.TestCase):
    def test_the_rate_counts_behind_the_last_knot_alone(self):
        before = [install(factor=10, rate=1), read(1, 2, 1, 4)]
        self.assertEqual(values(1, range(4), *before), [(2, 20), (2, 20), (3, 10), (3, 10)])
        self.assertEqual(last(*before, rate(1, 1000000)), [0])
        self.assertEqual(values(1, range(4), *before, rate(1, 0)), [(2, 20), (2, 20), (3, 0), (3, 0)])
        self.assertEqual(values(1, [2], *before, rate(1, 1000000)), [(3, 10000000)])

    def test_of_one_meter_alone(self):
        self.assertEqual(ask(install(), install(rate=3), rate(1, 8), value(1, 0), value(2, 0))[-2:],
                         [[0, 3, 8], [0, 3, 3]])


class Assigning(unittest.TestCase):
    def test_from_the_quarter_on(self):
        before = [install(kind=1, rate=1), assign(1, 5, 7)]
        self.assertEqual(ask(*before, publish(0, 5), publish(4, 6), publish(5, 10000))[1:],
                         [[0], [0, 1, 0, 5], [0, 2, 0, 1, 7, 1], [0, 1, 7, 9995]])

    def test_told_anew(self):
        before = [install(kind=1, rate=1), assign(1, 5, 7), assign(1, 5, 32)]
        self.assertEqual(last(*before, publish(0, 10)), [0, 2, 0, 5, 32, 5])

    def test_back_to_nobody(self):
        before = [install(kind=1, rate=1), assign(1, 5, 7), assign(1, 8, 0)]
        self.assertEqual(last(*before, publish(0, 20)), [0, 2, 0, 17, 7, 3])

    def test_at_the_lock(self):
        self.assertEqual(last(lock(5), install(boundary=5), assign(1, 5, 1)), [0])
        self.assertEqual(last(install(), assign(1, 0, 1)), [0])
        self.assertEqual(last(install(), assign(1, 9999, 1)), [0])

    def test_before_the_meter_begins(self):
        before = [install(kind=1, boundary=8, rate=1), assign(1, 2, 4)]
        self.assertEqual(last(*before, publish(0, 10)), [0, 1, 4, 2])

    def test_64_pairs_of_all_meters(self):
        before = [install(kind=1), install(kind=1)]
        before += [assign(1 + place % 2, place // 2, place % 2) for place in range(63)]
        told = ask(*before, assign(1, 40, 0), assign(1, 41, 0), assign(2, 40, 0), assign(1, 0, 6), assign(1, 40, 6))
        self.assertEqual(told[-5:], [[0], [-4], [-4], [0], [0]])

    def test_a_pair_told_anew_counts_once(self):
        before = [install()] + [assign(1, 3, hand) for hand in range(33)]
        before += [assign(1, quarter, 0) for quarter in range(4, 67)]
        self.assertEqual(ask(*before, assign(1, 67, 0))[-2:], [[0], [-4]])


class Locking(unittest.TestCase):
    def test_with_no_meters(self):
        self.assertEqual(ask(lock(1), lock(2), lock(10000), lock(10000)), [[0], [0], [0], [-5]])

    def test_where_every_meter_is_read(self):
        self.assertEqual(last(install(), read(1, 5, 1, 3), lock(5)), [0])
        self.assertEqual(last(install(), install(), read(1, 5, 1, 3), read(2, 5, 1, 3), lock(5)), [0])

    def test_where_a_register_starts_or_ends(self):
        self.assertEqual(last(install(), swap(1, 5, 3), lock(5)), [0])
        self.assertEqual(last(install(), remove(1, 5, 3), lock(5)), [0])

    def test_behind_the_end_of_a_removed_meter(self):
        self.assertEqual(last(install(), remove(1, 5, 3), lock(6)), [0])

    def test_before_or_at_the_start_of_a_meter(self):
        self.assertEqual(last(install(boundary=5), lock(4)), [0])
        self.assertEqual(last(install(boundary=5), lock(5)), [0])
        self.assertEqual(last(install(boundary=5), lock(6)), [-10])

    def test_what_lies_before_it_stays(self):
        before = [install(kind=1, start=1), read(1, 4, 1, 9), read(1, 6, 1, 12), assign(1, 2, 3), lock(4)]
        tries = [read(1, 2, 1, 3), read(1, 4, 2, -1), swap(1, 3, 3), remove(1, 4, 3), assign(1, 3, 9),
                 install(boundary=3), rate(1, 100), read(1, 6, 2, -1), assign(1, 4, 8)]
        shown = [value(1, quarter) for quarter in range(4)] + [publish(0, 4)]
        self.assertEqual(ask(*before, *tries)[len(before):], [[-5]] * 6 + [[0]] * 3)
        self.assertEqual(ask(*before, *tries, *shown)[-5:], ask(*before, *shown)[-5:])


if __name__ == "__main__":
    unittest.main()
