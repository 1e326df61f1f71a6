"""In whose hand a meter is, and what goes through in each: hand, total, nets and published."""

import unittest

from tests.calls import (
    ask, asked, assign, hand, install, last, lock, nets, profile, publish, published, rate, read, remove, swap, total,
)


def hands(before, *quarters, meter=1):
    return [number for answer in asked(before, *[hand(meter, quarter) for quarter in quarters]) for number in answer]


class Hand(unittest.TestCase):
    def test_none_told(self):
        self.assertEqual(last(install(), hand(1, 5)), [0, 0])
        self.assertEqual(hands([install()], 0, 9999), [0, 0])

    def test_from_the_told_quarter_on(self):
        self.assertEqual(hands([install(), assign(1, 5, 7)], 0, 4, 5, 6, 9999), [0, 0, 7, 7, 7])

    def test_the_latest_that_is_not_later(self):
        before = [install(), assign(1, 8, 3), assign(1, 5, 7), assign(1, 6, 32)]
        self.assertEqual(hands(before, 4, 5, 6, 7, 8, 9), [0, 7, 32, 32, 3, 3])

    def test_told_for_the_same_quarter_twice(self):
        self.assertEqual(hands([install(), assign(1, 5, 7), assign(1, 5, 2)], 4, 5, 6), [0, 2, 2])

    def test_hand_0_told(self):
        self.assertEqual(hands([install(), assign(1, 5, 7), assign(1, 8, 0)], 5, 7, 8, 9), [7, 7, 0, 0])
        self.assertEqual(hands([install(), assign(1, 5, 7), assign(1, 5, 0)], 4, 5, 6), [0, 0, 0])
        self.assertEqual(hands([install(), assign(1, 3, 4), assign(1, 5, 7), assign(1, 5, 0)], 3, 4, 5), [4, 4, 0])

    def test_the_first_and_the_last_quarter(self):
        self.assertEqual(hands([install(), assign(1, 0, 1), assign(1, 9999, 2)], 0, 9998, 9999), [1, 1, 2])

    def test_before_a_meter_begins_and_behind_its_end(self):
        before = [install(boundary=5), assign(1, 2, 3), remove(1, 7, 4), assign(1, 9, 8)]
        self.assertEqual(hands(before, 1, 2, 8, 9), [0, 3, 3, 8])

    def test_each_meter_has_its_own(self):
        before = [install(), install(), assign(1, 5, 7), assign(2, 4, 6)]
        self.assertEqual(hands(before, 4, 5), [0, 7])
        self.assertEqual(hands(before, 3, 4, 5, meter=2), [0, 6, 6])

    def test_a_meter_of_kind_2_is_in_nobodys(self):
        self.assertEqual(hands([install(kind=2, second=1)], 0, 9999), [0, 0])

    def test_a_refused_assign_tells_nothing(self):
        before = [install(boundary=9), assign(1, 5, 7), lock(6)]
        self.assertEqual(ask(*before, assign(1, 5, 2), hand(1, 5))[-2:], [[-5], [0, 7]])


class Total(unittest.TestCase):
    def test_no_meters(self):
        self.assertEqual(ask(total(0, 0, 0, 10000), total(32, 7, 4, 4)), [[0, 0, 0]] * 2)

    def test_in_then_out(self):
        self.assertEqual(last(install(kind=1, rate=5), total(0, 0, 2, 6)), [0, 20, 0])
        self.assertEqual(last(install(kind=0, rate=5), total(0, 0, 2, 6)), [0, 0, 20])
        self.assertEqual(last(install(kind=1, rate=5), install(kind=0, rate=7), total(0, 0, 2, 6)), [0, 20, 28])

    def test_unlike_zones(self):
        before = [install(kind=1, zone=1, rate=1), install(kind=1, zone=2, rate=10), install(zone=2, rate=100)]
        before += [install(zone=7, rate=1000), install(kind=1, zone=1, rate=2)]
        self.assertEqual(asked(before, *[total(0, zone, 0, 1) for zone in (0, 1, 2, 7)]),
                         [[0, 0], [3, 0], [10, 100], [0, 1000]])

    def test_unlike_hands(self):
        before = [install(kind=1, rate=number) for number in (1, 10, 100)] + [install(rate=7), install(rate=8)]
        before += [assign(1, 0, 4), assign(3, 0, 4), assign(4, 0, 32), assign(5, 0, 4)]
        self.assertEqual(asked(before, *[total(number, 0, 5, 6) for number in (0, 4, 5, 32)]),
                         [[10, 0], [101, 8], [0, 0], [0, 7]])

    def test_before_the_first_told_quarter_it_is_in_hand_0(self):
        before = [install(kind=1, rate=1), assign(1, 5, 3)]
        self.assertEqual(asked(before, total(0, 0, 0, 5), total(0, 0, 0, 10), total(3, 0, 0, 10), total(3, 0, 0, 5)),
                         [[5, 0], [5, 0], [5, 0], [0, 0]])

    def test_hand_0_told(self):
        before = [install(kind=1, rate=1), assign(1, 5, 3), assign(1, 7, 0)]
        self.assertEqual(asked(before, total(0, 0, 0, 10), total(3, 0, 0, 10), total(0, 0, 5, 7), total(0, 0, 6, 8)),
                         [[8, 0], [2, 0], [0, 0], [1, 0]])

    def test_told_for_the_same_quarter_twice(self):
        before = [install(rate=1), assign(1, 5, 3), assign(1, 5, 9)]
        self.assertEqual(asked(before, total(3, 0, 0, 10), total(9, 0, 0, 10)), [[0, 0], [0, 5]])

    def test_begins_and_ends_between_told_quarters(self):
        before = [install(kind=1), read(1, 8, 1, 20), assign(1, 1, 9), assign(1, 3, 2), assign(1, 5, 9)]
        # By boundary: 0 2 5 7 10 12 15 17 20.
        self.assertEqual(asked(before, total(9, 0, 2, 6), total(2, 0, 2, 6), total(0, 0, 2, 6)),
                         [[5, 0], [5, 0], [0, 0]])
        self.assertEqual(asked(before, total(9, 0, 0, 8), total(2, 0, 4, 5), total(2, 0, 3, 3), total(9, 0, 6, 7)),
                         [[13, 0], [2, 0], [0, 0], [2, 0]])

    def test_told_at_the_stretchs_ends(self):
        before = [install(kind=1, rate=1), assign(1, 2, 5), assign(1, 6, 7)]
        self.assertEqual(asked(before, total(5, 0, 2, 6), total(7, 0, 2, 6), total(7, 0, 2, 7), total(0, 0, 1, 6)),
                         [[4, 0], [0, 0], [1, 0], [1, 0]])

    def test_meters_of_kind_2_are_neither_in_nor_out(self):
        before = [install(kind=2, zone=1, second=2, rate=5), install(kind=2, zone=2, second=1, rate=5)]
        before += [install(kind=2, zone=0, second=1, rate=5)]
        self.assertEqual(asked(before, *[total(0, zone, 0, 9) for zone in (0, 1, 2)]), [[0, 0]] * 3)

    def test_from_equal_to_to(self):
        self.assertEqual(asked([install(rate=4)], total(0, 0, 5, 5), total(0, 0, 0, 0), total(0, 0, 10000, 10000)),
                         [[0, 0]] * 3)

    def test_all_of_time(self):
        before = [install(factor=10000, rate=1000000)] * 31 + [install(kind=1, rate=1)]
        self.assertEqual(last(*before, total(0, 0, 0, 10000)), [0, 10000, 31 * 10 ** 14])

    def test_across_registers_and_knots(self):
        before = [profile(1, 3), install(boundary=2, start=90, digits=2, factor=3, profile=1)]
        before += [swap(1, 4, 0, start=5, factor=2), remove(1, 8, 9), assign(1, 3, 1), assign(1, 5, 2)]
        # Quarter 2: 7, 3: 23, 4: 1, 5: 3, 6: 1, 7: 3.
        self.assertEqual(asked(before, *[total(number, 0, 0, 10000) for number in (0, 1, 2)]),
                         [[0, 7], [0, 24], [0, 7]])


class Nets(unittest.TestCase):
    def test_no_meters(self):
        self.assertEqual(ask(nets(0, 10000), nets(3, 3)), [[0, 0]] * 2)

    def test_in_less_out_over_all_zones(self):
        before = [install(kind=1, zone=1, rate=5), install(zone=2, rate=7), install(kind=1, zone=7, rate=1)]
        self.assertEqual(last(*before, nets(2, 6)), [0, 1, 0, -4])
        self.assertEqual(last(*before, assign(3, 0, 9), nets(2, 6)), [0, 2, 0, -8, 9, 4])

    def test_hands_in_order_of_number(self):
        before = [install(kind=number % 2, rate=number + 1) for number in range(32)]
        before += [assign(number + 1, 0, 32 - number) for number in range(32)]
        pairs = [(holder, 33 - holder if holder % 2 else holder - 33) for holder in range(1, 33)]
        self.assertEqual(last(*before, nets(7, 8)), [0, 32] + [number for pair in pairs for number in pair])

    def test_a_net_of_0_is_left_out(self):
        before = [install(kind=1, rate=5), install(rate=5), install(rate=5), assign(1, 0, 3), assign(2, 0, 3)]
        self.assertEqual(last(*before, nets(2, 6)), [0, 1, 0, -20])
        self.assertEqual(last(*before, assign(3, 0, 8), nets(2, 6)), [0, 1, 8, -20])

    def test_meters_of_kind_2_are_in_no_net(self):
        self.assertEqual(last(install(kind=2, second=1, rate=5), nets(0, 10)), [0, 0])

    def test_from_hand_to_hand(self):
        before = [install(kind=1, rate=1), assign(1, 2, 5), assign(1, 6, 7)]
        self.assertEqual(asked(before, nets(1, 7), nets(3, 5), nets(6, 6), nets(2, 6)),
                         [[3, 0, 1, 5, 4, 7, 1], [1, 5, 2], [0], [1, 5, 4]])

    def test_as_the_readings_are_now(self):
        before = [install(kind=1, rate=1), read(1, 4, 1, 8)]
        self.assertEqual(ask(*before, nets(0, 4), publish(0, 4), read(1, 4, 2, 9), nets(0, 4), read(1, 4, 3, -1),
                             nets(0, 4), rate(1, 0), nets(0, 4))[2:],
                         [[0, 1, 0, 8], [0, 1, 0, 8], [0], [0, 1, 0, 9], [0], [0, 1, 0, 4], [0], [0, 0]])

    def test_publishes_nothing(self):
        self.assertEqual(ask(install(kind=1, rate=1), nets(0, 4), published(0, 4), publish(0, 4))[1:],
                         [[0, 1, 0, 4], [0, 0], [0, 1, 0, 4]])

    def test_are_the_sum_of_the_totals(self):
        before = [install(kind=number % 2, zone=number % 3, boundary=number, rate=number + 3) for number in range(6)]
        before += [assign(1 + number % 6, number, number % 4) for number in range(20)]
        told = [0] * 4
        for holder in range(4):
            for into, out in asked(before, *[total(holder, zone, 1, 15) for zone in range(8)]):
                told[holder] += into - out
        pairs = [pair for pair in enumerate(told) if pair[1] != 0]
        self.assertEqual(last(*before, nets(1, 15)), [0, len(pairs)] + [number for pair in pairs for number in pair])


class Published(unittest.TestCase):
    METER = [install(kind=1, rate=1), assign(1, 2, 3), read(1, 4, 1, 8)]

    def test_never_published(self):
        self.assertEqual(ask(published(0, 4), published(0, 0), published(10000, 10000)), [[0, 0]] * 3)
        before = [*self.METER, publish(0, 4)]
        self.assertEqual(asked(before, published(0, 3), published(1, 4), published(4, 4)), [[0]] * 3)

    def test_to_before_from(self):
        self.assertEqual(ask(published(4, 0), published(10000, 9999)), [[0, 0]] * 2)
        self.assertEqual(last(*self.METER, publish(0, 4), published(4, 0)), [0, 0])
        self.assertEqual(ask(*self.METER, publish(4, 0), published(4, 0))[-2:], [[-11], [0, 0]])

    def test_the_nets_by_hand(self):
        self.assertEqual(last(*self.METER, publish(0, 4), published(0, 4)), [0, 1, 2, 0, 4, 3, 4])

    def test_hands_in_order_of_number(self):
        before = [install(kind=number % 2, rate=number + 1) for number in range(32)]
        before += [assign(number + 1, 0, 32 - number) for number in range(32)]
        pairs = [(holder, 33 - holder if holder % 2 else holder - 33) for holder in range(1, 33)]
        self.assertEqual(last(*before, publish(7, 8), published(7, 8)),
                         [0, 1, 32] + [number for pair in pairs for number in pair])

    def test_a_net_of_0_is_left_out(self):
        before = [install(kind=1, rate=5), install(rate=5), install(rate=5), assign(3, 0, 3)]
        self.assertEqual(last(*before, publish(0, 4), published(0, 4)), [0, 1, 1, 3, -20])

    def test_published_with_no_net_at_all(self):
        self.assertEqual(last(publish(0, 4), published(0, 4)), [0, 1, 0])
        self.assertEqual(last(*self.METER, publish(3, 3), published(3, 3)), [0, 1, 0])

    def test_stay_though_the_nets_have_changed_since(self):
        told = ask(*self.METER, publish(0, 4), read(1, 4, 2, 12), published(0, 4), nets(0, 4), publish(0, 4),
                   published(0, 4), assign(1, 0, 9), install(rate=50), published(0, 4))
        self.assertEqual(told[5:9], [[0, 1, 2, 0, 4, 3, 4], [0, 2, 0, 6, 3, 6], [0, 2, 0, 2, 3, 2],
                                     [0, 1, 2, 0, 6, 3, 6]])
        self.assertEqual(told[-1], [0, 1, 2, 0, 6, 3, 6])

    def test_the_nets_and_not_the_differences(self):
        self.assertEqual(last(*self.METER, publish(0, 4), publish(0, 4), published(0, 4)), [0, 1, 2, 0, 4, 3, 4])

    def test_a_net_that_has_come_to_0(self):
        before = [*self.METER, publish(0, 4), install(kind=0, rate=2), assign(2, 0, 3), read(2, 4, 1, 4)]
        self.assertEqual(last(*before, publish(0, 4), published(0, 4)), [0, 1, 1, 0, 4])

    def test_a_refused_publish_keeps_what_was_published(self):
        periods = [publish(0, end) for end in range(4, 20)]
        told = ask(*self.METER, *periods, publish(0, 20), published(0, 20), published(0, 19), published(0, 4))
        self.assertEqual(told[-4:], [[-4], [0, 0], [0, 1, 2, 0, 4, 3, 19], [0, 1, 2, 0, 4, 3, 4]])


if __name__ == "__main__":
    unittest.main()
