"""What goes through a meter: through, between, gaps and doubt."""

import unittest

from tests.calls import (
    asked, between, doubt, gaps, install, last, lock, profile, rate, read, remove, swap, through, value,
)


def by(before, *boundaries, meter=1):
    """What is through by each of the boundaries."""
    return [number for answer in asked(before, *[through(meter, at) for at in boundaries]) for number in answer]


def spans(before, *periods, meter=1):
    """What goes through in each of the periods."""
    return [number for answer in asked(before, *[between(meter, *period) for period in periods]) for number in answer]


class Through(unittest.TestCase):
    METER = [install(boundary=3, rate=5), read(1, 7, 1, 10), read(1, 9, 1, 11)]

    def test_one_number(self):
        self.assertEqual(last(*self.METER, through(1, 7)), [0, 10])

    def test_before_the_first_knot_and_at_it(self):
        self.assertEqual(by(self.METER, 0, 2, 3), [0, 0, 0])
        self.assertEqual(by([install(start=500, rate=7)], 0, 1), [0, 7])

    def test_at_knots(self):
        self.assertEqual(by(self.METER, 3, 7, 9), [0, 10, 11])

    def test_within_a_stretch_rounded_down(self):
        self.assertEqual(by(self.METER, 4, 5, 6, 8), [2, 5, 7, 10])

    def test_behind_the_last_knot(self):
        self.assertEqual(by(self.METER, 10, 11, 9999, 10000), [16, 21, 11 + 9990 * 5, 11 + 9991 * 5])

    def test_the_last_registers_factor_behind_the_last_knot(self):
        before = [install(factor=3, rate=5), swap(1, 2, 4, factor=7)]
        self.assertEqual(by(before, 1, 2, 3, 4), [6, 12, 47, 82])

    def test_a_new_rate_counts_behind_the_last_knot_alone(self):
        self.assertEqual(by([*self.METER, rate(1, 100)], 8, 9, 10), [10, 11, 111])

    def test_behind_the_end_of_a_removed_meter(self):
        before = [install(boundary=3, rate=5), read(1, 7, 1, 10), remove(1, 9, 15)]
        self.assertEqual(by(before, 8, 9, 10, 10000), [12, 15, 15, 15])

    def test_a_meter_from_0_to_10000(self):
        before = [install(digits=9, factor=10000), read(1, 10000, 1, 999999999)]
        self.assertEqual(by(before, 0, 1, 5000, 9999, 10000),
                         [0, 999999999, 4999999995000, 9998999990001, 9999999990000])
        self.assertEqual(by([install(digits=5), remove(1, 10000, 20001)], 0, 9999, 10000), [0, 19998, 20001])

    def test_a_meter_that_starts_at_10000(self):
        self.assertEqual(by([install(boundary=10000, rate=5)], 0, 9999, 10000), [0, 0, 0])

    def test_the_greatest_rate(self):
        self.assertEqual(by([install(factor=10000, rate=1000000)], 10000), [10 ** 14])

    def test_across_registers_that_roll_over(self):
        before = [install(boundary=2, start=90, digits=2, factor=3), swap(1, 4, 0, start=5, factor=2)]
        before += [read(1, 6, 1, 9), remove(1, 8, 8)]
        # 10 units of 3, 4 units of 2, then 999 units of 2.
        self.assertEqual(by(before, 2, 3, 4, 5, 6, 7, 8, 9), [0, 15, 30, 34, 38, 1037, 2036, 2036])

    def test_by_weight(self):
        before = [profile(1, 3, 6), install(profile=1, boundary=4), read(1, 8, 1, 13)]
        self.assertEqual(by(before, 4, 5, 6, 7, 8), [0, 3, 9, 10, 13])

    def test_weights_whose_sum_is_0(self):
        before = [profile(0, 0, 0, 5), install(profile=1), read(1, 3, 1, 7), read(1, 8, 1, 17)]
        self.assertEqual(by(before, 0, 1, 2, 3, 4, 5, 7, 8), [0, 2, 4, 7, 12, 12, 12, 17])

    def test_weights_whose_sum_is_0_from_a_later_knot_on(self):
        before = [profile(0), install(profile=1, boundary=5), read(1, 8, 1, 7), remove(1, 12, 17)]
        self.assertEqual(by(before, 4, 5, 6, 7, 8, 9, 10, 11, 12, 13), [0, 0, 2, 4, 7, 9, 12, 14, 17, 17])

    def test_weights_of_0_have_no_say_behind_the_last_knot(self):
        self.assertEqual(by([profile(0), install(profile=1, rate=3)], 1, 2), [3, 6])

    def test_a_struck_reading_is_no_knot(self):
        before = [install(), read(1, 2, 1, 8), read(1, 4, 1, 8)]
        self.assertEqual(by(before, 1, 2, 3), [4, 8, 8])
        self.assertEqual(by([*before, read(1, 2, 2, -1)], 1, 2, 3), [2, 4, 6])

    def test_another_meter_has_no_say(self):
        before = [install(rate=1), install(kind=1, rate=20), read(2, 5, 1, 9)]
        self.assertEqual(by(before, 5, 6), [5, 6])
        self.assertEqual(by(before, 5, 6, meter=2), [9, 29])

    def test_every_kind_of_meter(self):
        for kind, second in ((0, 0), (1, 0), (2, 1)):
            before = [install(kind=kind, second=second, rate=5), read(1, 2, 1, 6)]
            self.assertEqual(by(before, 1, 2, 3), [3, 6, 11])


class Between(unittest.TestCase):
    METER = [install(boundary=3, rate=5), read(1, 7, 1, 10), read(1, 9, 1, 11)]

    def test_one_number(self):
        self.assertEqual(last(*self.METER, between(1, 3, 7)), [0, 10])

    def test_from_equal_to_to(self):
        self.assertEqual(spans(self.METER, *[(at, at) for at in (0, 3, 5, 7, 9, 50, 10000)]), [0] * 7)

    def test_knot_to_knot(self):
        self.assertEqual(spans(self.METER, (3, 7), (7, 9), (3, 9)), [10, 1, 11])

    def test_within_a_stretch(self):
        # By boundary from 3 on: 0 2 5 7 10.
        self.assertEqual(spans(self.METER, (3, 4), (4, 5), (5, 6), (6, 7), (4, 6)), [2, 3, 2, 3, 5])

    def test_across_knots(self):
        self.assertEqual(spans(self.METER, (0, 5), (4, 8), (6, 11), (0, 3)), [5, 8, 14, 0])

    def test_behind_the_last_knot(self):
        self.assertEqual(spans(self.METER, (9, 10), (20, 30), (8, 10000)), [5, 50, 1 + 9991 * 5])

    def test_behind_the_end_of_a_removed_meter(self):
        before = [install(boundary=3, rate=5), remove(1, 9, 12)]
        self.assertEqual(spans(before, (8, 9), (8, 10000), (9, 10000), (0, 10000)), [2, 2, 0, 12])

    def test_all_of_time(self):
        self.assertEqual(spans(self.METER, (0, 10000)), [11 + 9991 * 5])
        self.assertEqual(spans([install(rate=3)], (0, 10000), (9999, 10000), (0, 1)), [30000, 3, 3])

    def test_weights_whose_sum_is_0(self):
        before = [profile(0), install(profile=1), read(1, 3, 1, 7)]
        self.assertEqual(spans(before, (0, 1), (1, 2), (2, 3), (1, 3)), [2, 2, 3, 5])

    def test_the_quarters_add_up(self):
        before = [profile(7, 0, 13, 1), install(profile=1, boundary=4, digits=5, rate=9)]
        before += [read(1, 31, 1, 12345), swap(1, 40, 345, factor=3), read(1, 57, 1, 800)]
        quarters = [answer[1] for answer in asked(before, *[value(1, quarter) for quarter in range(70)])]
        for start, end in ((0, 70), (5, 31), (17, 44), (40, 40), (41, 42), (56, 69)):
            with self.subTest(start=start, end=end):
                self.assertEqual(spans(before, (start, end)), [sum(quarters[start:end])])


class Gaps(unittest.TestCase):
    def test_no_pair(self):
        self.assertEqual(last(install(rate=5), gaps(1)), [0, 0])
        self.assertEqual(last(install(), read(1, 5, 1, 4), read(1, 5, 2, -1), gaps(1)), [0, 0])

    def test_a_pair(self):
        self.assertEqual(last(install(boundary=2, factor=10), read(1, 5, 1, 4), gaps(1)), [0, 1, 2, 5, 40])

    def test_the_earliest_first_in_whatever_order_they_came(self):
        before = [install(), read(1, 9, 1, 9), read(1, 2, 7, 5), read(1, 4, 2, 5)]
        self.assertEqual(last(*before, gaps(1)), [0, 3, 0, 2, 5, 2, 4, 0, 4, 9, 4])

    def test_a_struck_reading_parts_nothing(self):
        before = [install(), read(1, 9, 1, 9), read(1, 4, 1, 8), read(1, 4, 2, -1), read(1, 6, 1, -1)]
        self.assertEqual(last(*before, gaps(1)), [0, 1, 0, 9, 9])
        self.assertEqual(last(*before, read(1, 4, 3, 2), gaps(1)), [0, 2, 0, 4, 2, 4, 9, 7])

    def test_several_registers(self):
        before = [install(start=990), swap(1, 4, 0, start=95, digits=2, factor=100), read(1, 2, 1, 995)]
        self.assertEqual(last(*before, gaps(1)), [0, 2, 0, 2, 5, 2, 4, 5])
        self.assertEqual(last(*before, swap(1, 6, 94), remove(1, 10000, 7), gaps(1)),
                         [0, 4, 0, 2, 5, 2, 4, 5, 4, 6, 9900, 6, 10000, 7])

    def test_a_removed_meter(self):
        self.assertEqual(last(install(rate=3), remove(1, 4, 8), gaps(1)), [0, 1, 0, 4, 8])

    def test_what_lies_behind_the_last_knot_is_no_gap(self):
        self.assertEqual(last(install(rate=3), read(1, 4, 1, 8), rate(1, 5), gaps(1)), [0, 1, 0, 4, 8])

    def test_of_one_meter(self):
        before = [install(), install(boundary=3), read(1, 5, 1, 4), read(2, 6, 1, 8)]
        self.assertEqual(asked(before, gaps(1), gaps(2)), [[1, 0, 5, 4], [1, 3, 6, 8]])

    def test_the_lock_parts_nothing(self):
        before = [install(), read(1, 5, 1, 4), lock(5), read(1, 9, 1, 4)]
        self.assertEqual(last(*before, gaps(1)), [0, 2, 0, 5, 4, 5, 9, 0])

    def test_256_readings(self):
        before = [install(digits=9)] + [read(1, at, 1, 2 * at) for at in range(1, 257)]
        self.assertEqual(last(*before, gaps(1)),
                         [0, 256] + [number for at in range(256) for number in (at, at + 1, 2)])


class Doubt(unittest.TestCase):
    METER = [install(boundary=2), read(1, 5, 1, 30), read(1, 7, 1, 51), read(1, 8, 1, 51)]

    def test_no_pair(self):
        self.assertEqual(last(install(rate=5), doubt(1, 0)), [0, 0])

    def test_just_equal_and_one_more(self):
        self.assertEqual(last(install(), read(1, 3, 1, 30), doubt(1, 10)), [0, 0])
        self.assertEqual(last(install(), read(1, 3, 1, 31), doubt(1, 10)), [0, 1, 0, 3])
        self.assertEqual(last(install(boundary=9997), read(1, 10000, 1, 31), doubt(1, 10)), [0, 1, 9997, 10000])

    def test_some_of_the_pairs(self):
        self.assertEqual(last(*self.METER, doubt(1, 9)), [0, 2, 2, 5, 5, 7])
        self.assertEqual(last(*self.METER, doubt(1, 10)), [0, 1, 5, 7])
        self.assertEqual(last(*self.METER, doubt(1, 11)), [0, 0])

    def test_most_0(self):
        self.assertEqual(last(*self.METER, doubt(1, 0)), [0, 2, 2, 5, 5, 7])

    def test_most_10_to_the_12(self):
        before = [install(digits=9, factor=10000), read(1, 1, 1, 999999999), read(1, 11, 1, 999999998)]
        # 9999999990000 goes through in each pair: the first has one quarter, the other ten.
        self.assertEqual(last(*before, doubt(1, 10 ** 12)), [0, 1, 0, 1])
        self.assertEqual(last(*before, doubt(1, 999999999000)), [0, 1, 0, 1])
        self.assertEqual(last(*before, doubt(1, 999999998999)), [0, 2, 0, 1, 1, 11])

    def test_just_equal_to_the_greatest_most(self):
        before = [install(digits=9, factor=10000)]
        self.assertEqual(last(*before, read(1, 1, 1, 100000000), doubt(1, 10 ** 12)), [0, 0])
        self.assertEqual(last(*before, read(1, 1, 1, 100000001), doubt(1, 10 ** 12)), [0, 1, 0, 1])

    def test_several_registers_and_a_struck_reading(self):
        before = [install(factor=10), swap(1, 4, 8, digits=1), read(1, 2, 1, 8), read(1, 2, 2, -1), remove(1, 5, 9)]
        self.assertEqual(last(*before, doubt(1, 19)), [0, 1, 0, 4])
        self.assertEqual(last(*before, doubt(1, 20)), [0, 0])
        self.assertEqual(last(*before, doubt(1, 8)), [0, 2, 0, 4, 4, 5])

    def test_the_rate_behind_the_last_knot_is_in_no_doubt(self):
        self.assertEqual(last(install(rate=1000), read(1, 2, 1, 2), doubt(1, 5)), [0, 0])


if __name__ == "__main__":
    unittest.main()
