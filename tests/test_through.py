"""How much goes through, as value shows it quarter by quarter."""

import unittest

from tests.calls import install, profile, rate, read, remove, swap, values


class Stretches(unittest.TestCase):
    def test_spread_and_rounded_down_by_boundary(self):
        self.assertEqual(values(1, range(4), install(), read(1, 4, 1, 10)), [(2, 2), (2, 3), (2, 2), (2, 3)])

    def test_one_quarter_between_two_knots(self):
        before = [install(boundary=3), read(1, 4, 1, 7), read(1, 6, 1, 7), read(1, 7, 1, 8)]
        self.assertEqual(values(1, range(2, 8), *before), [(0, 0), (1, 7), (2, 0), (2, 0), (1, 1), (3, 0)])

    def test_rolls_over(self):
        before = [install(start=998, factor=5), read(1, 2, 1, 0), read(1, 3, 1, 999)]
        self.assertEqual(values(1, range(3), *before), [(2, 5), (2, 5), (1, 4995)])

    def test_rolls_over_with_one_digit_and_with_nine(self):
        self.assertEqual(values(1, [0], install(digits=1, start=9), read(1, 1, 1, 0)), [(1, 1)])
        self.assertEqual(values(1, [0], install(digits=9, start=999999999), read(1, 1, 1, 999999998)),
                         [(1, 999999999)])

    def test_the_same_at_both_knots_has_counted_nothing(self):
        before = [install(start=5, rate=2), read(1, 4, 1, 5), read(1, 5, 1, 5)]
        self.assertEqual(values(1, [0, 3, 4, 5], *before), [(2, 0), (2, 0), (1, 0), (3, 2)])

    def test_the_greatest_amount(self):
        before = [install(digits=9, factor=10000), read(1, 10000, 1, 999999999)]
        self.assertEqual(values(1, [0, 9999], *before), [(2, 999999999), (2, 999999999)])
        before = [profile(1000, 999), install(digits=9, factor=10000, profile=1), read(1, 10000, 1, 999999999)]
        self.assertEqual(values(1, [0, 9999], *before),
                         [(2, 9999999990000 * 1000 // 9995000), (2, 9999999990000 - 9999999990000 * 9994001 // 9995000)])

    def test_a_stretch_ends_at_each_reading_that_stands(self):
        before = [install(), read(1, 2, 1, 4), read(1, 4, 1, 5)]
        self.assertEqual(values(1, range(4), *before), [(2, 2), (2, 2), (2, 0), (2, 1)])

    def test_a_struck_reading_is_no_knot(self):
        before = [install(), read(1, 2, 1, 4), read(1, 4, 1, 8), read(1, 2, 2, -1), read(1, 1, 1, -1)]
        self.assertEqual(values(1, range(4), *before), [(2, 2)] * 4)
        before = [install(rate=9), read(1, 2, 1, 4), read(1, 2, 2, -1)]
        self.assertEqual(values(1, range(2), *before), [(3, 9), (3, 9)])

    def test_a_greater_version_stands_instead(self):
        before = [install(), read(1, 2, 5, 4), read(1, 2, 6, 8), read(1, 2, 1, 100)]
        self.assertEqual(values(1, range(2), *before), [(2, 4), (2, 4)])
        self.assertEqual(values(1, range(2), *before, read(1, 2, 7, -1), read(1, 2, 8, 2)), [(2, 1), (2, 1)])

    def test_a_corrected_reading_moves_what_lies_on_both_sides(self):
        before = [install(), read(1, 2, 1, 4), read(1, 4, 1, 8)]
        self.assertEqual(values(1, range(4), *before, read(1, 2, 2, 6)), [(2, 3), (2, 3), (2, 1), (2, 1)])


class Weights(unittest.TestCase):
    def test_by_weight_rounded_down_by_boundary(self):
        before = [profile(1, 3), install(profile=1)]
        self.assertEqual(values(1, range(4), *before, read(1, 4, 1, 8)), [(2, 1), (2, 3), (2, 1), (2, 3)])
        self.assertEqual(values(1, range(4), *before, read(1, 4, 1, 7)), [(2, 0), (2, 3), (2, 1), (2, 3)])

    def test_the_place_in_the_row_goes_by_the_quarter_not_by_the_knot(self):
        before = [profile(1, 3, 6), install(profile=1, boundary=4), read(1, 8, 1, 13)]
        self.assertEqual(values(1, range(4, 8), *before), [(2, 3), (2, 6), (2, 1), (2, 3)])

    def test_a_sum_of_0_spreads_evenly(self):
        before = [profile(0), install(profile=1), read(1, 3, 1, 7)]
        self.assertEqual(values(1, range(3), *before), [(2, 2), (2, 2), (2, 3)])

    def test_a_sum_of_0_in_a_stretch_that_begins_later(self):
        before = [profile(0), install(profile=1, boundary=5), read(1, 8, 1, 7), read(1, 12, 1, 17)]
        self.assertEqual(values(1, range(4, 13), *before),
                         [(0, 0), (2, 2), (2, 2), (2, 3), (2, 2), (2, 3), (2, 2), (2, 3), (3, 0)])

    def test_a_sum_of_0_in_one_stretch_alone(self):
        before = [profile(0, 0, 0, 5), install(profile=1), read(1, 3, 1, 7), read(1, 8, 1, 17)]
        self.assertEqual(values(1, range(8), *before),
                         [(2, 2), (2, 2), (2, 3), (2, 5), (2, 0), (2, 0), (2, 0), (2, 5)])

    def test_a_weight_of_0_at_the_stretchs_ends(self):
        before = [profile(0, 4, 0), install(profile=1), read(1, 3, 1, 7)]
        self.assertEqual(values(1, range(3), *before), [(2, 0), (2, 7), (2, 0)])

    def test_a_quarter_of_weight_0_between_its_own_knots(self):
        before = [profile(0, 4), install(profile=1), read(1, 1, 1, 7)]
        self.assertEqual(values(1, [0], *before), [(1, 7)])

    def test_the_profile_has_no_say_behind_the_last_knot(self):
        before = [profile(0, 4), install(profile=1, rate=3)]
        self.assertEqual(values(1, range(3), *before), [(3, 3)] * 3)

    def test_each_stretch_adds_up(self):
        before = [profile(7, 0, 13, 1, 998), install(profile=1, boundary=11, digits=5), read(1, 100, 1, 12345)]
        before += [read(1, 211, 1, 345)]
        told = values(1, range(211), *before)
        self.assertEqual(sum([amount for how, amount in told[:11]]), 0)
        self.assertEqual(sum([amount for how, amount in told[11:100]]), 12345)
        self.assertEqual(sum([amount for how, amount in told[100:]]), 88000)
        self.assertGreaterEqual(min([amount for how, amount in told]), 0)


class Ends(unittest.TestCase):
    def test_before_the_first_knot(self):
        self.assertEqual(values(1, [0, 4, 5], install(boundary=5, rate=2)), [(0, 0), (0, 0), (3, 2)])

    def test_behind_the_last_knot(self):
        before = [install(factor=10000, rate=1000000), read(1, 2, 1, 4)]
        self.assertEqual(values(1, [2, 9999], *before), [(3, 10000000000)] * 2)

    def test_the_last_registers_factor(self):
        self.assertEqual(values(1, [2, 3], install(factor=7, rate=5), swap(1, 3, 1, factor=2)), [(2, 3), (3, 10)])
        self.assertEqual(values(1, [0, 3], install(factor=7, rate=5)), [(3, 35), (3, 35)])

    def test_behind_the_last_knot_of_a_removed_one(self):
        before = [install(rate=5), remove(1, 2, 4)]
        self.assertEqual(values(1, [1, 2, 3, 9999], *before, rate(1, 6)), [(2, 2), (0, 0), (0, 0), (0, 0)])

    def test_from_boundary_0_to_10000(self):
        before = [install(digits=5), read(1, 10000, 1, 20000)]
        self.assertEqual(values(1, [0, 5000, 9999], *before), [(2, 2)] * 3)
        self.assertEqual(values(1, [9998, 9999], *before, read(1, 9999, 1, 9999)), [(2, 1), (1, 10001)])
        self.assertEqual(values(1, [0, 1], *before, read(1, 1, 1, 10001)), [(1, 10001), (2, 1)])

    def test_a_meter_that_begins_at_10000(self):
        self.assertEqual(values(1, [0, 9999], install(boundary=10000, rate=5)), [(0, 0), (0, 0)])

    def test_the_last_quarter_behind_the_last_knot(self):
        self.assertEqual(values(1, [9998, 9999], install(boundary=9999, rate=5)), [(0, 0), (3, 5)])

    def test_swapped_at_10000(self):
        before = [install(boundary=9998, rate=5), swap(1, 10000, 6)]
        self.assertEqual(values(1, [9997, 9998, 9999], *before), [(0, 0), (2, 3), (2, 3)])

    def test_both_kinds_of_knot_of_a_quarter(self):
        before = [install(boundary=1), swap(1, 2, 4), remove(1, 3, 5)]
        self.assertEqual(values(1, range(4), *before), [(0, 0), (1, 4), (1, 5), (0, 0)])

    def test_every_kind_of_meter(self):
        for kind, second in ((0, 0), (1, 0), (2, 1)):
            before = [install(kind=kind, second=second, rate=5), read(1, 2, 1, 6)]
            self.assertEqual(values(1, range(3), *before), [(2, 3), (2, 3), (3, 5)])


if __name__ == "__main__":
    unittest.main()
