"""Publishing a period: the nets, what has changed since, whose hands they are in."""

import unittest

from tests.calls import ask, assign, install, last, lock, publish, rate, read, remove, swap


class FirstTime(unittest.TestCase):
    def test_nothing_kept(self):
        self.assertEqual(ask(publish(0, 10000), publish(3, 3), publish(10000, 10000)), [[0, 0]] * 3)

    def test_in_less_out_of_nobody(self):
        self.assertEqual(last(install(kind=1, rate=5), publish(2, 6)), [0, 1, 0, 20])
        self.assertEqual(last(install(kind=0, rate=5), publish(2, 6)), [0, 1, 0, -20])
        self.assertEqual(last(install(kind=1, rate=5), install(rate=7), publish(2, 6)), [0, 1, 0, -8])

    def test_over_all_zones(self):
        before = [install(kind=1, zone=zone, rate=10 ** zone // 10) for zone in range(1, 8)]
        before += [assign(meter, 0, 4) for meter in range(1, 8)]
        self.assertEqual(last(*before, publish(0, 1)), [0, 1, 4, 1111111])

    def test_a_net_of_0_is_left_out(self):
        before = [install(kind=1, rate=5), install(rate=5), install(rate=5)]
        self.assertEqual(last(*before[:2], publish(2, 6)), [0, 0])
        self.assertEqual(last(*before, assign(1, 0, 3), assign(2, 0, 3), publish(2, 6)), [0, 1, 0, -20])

    def test_hands_in_order_of_number(self):
        before = [install(kind=number % 2, rate=number + 1) for number in range(32)]
        before += [assign(number + 1, 0, 32 - number) for number in range(32)]
        nets = [(hand, 33 - hand if hand % 2 else hand - 33) for hand in range(1, 33)]
        self.assertEqual(last(*before, publish(7, 8)), [0, 32] + [number for net in nets for number in net])

    def test_meters_of_kind_2_are_in_nobodys_net(self):
        before = [install(kind=2, zone=1, second=2, rate=5), install(kind=2, zone=2, second=1), read(2, 5, 1, 9)]
        self.assertEqual(last(*before, publish(0, 10)), [0, 0])

    def test_from_equal_to_to(self):
        self.assertEqual(ask(install(kind=1, rate=5), publish(4, 4), publish(0, 0), publish(4, 5))[1:],
                         [[0, 0], [0, 0], [0, 1, 0, 5]])

    def test_all_of_time(self):
        before = [install(kind=1, rate=1000000, factor=10000), assign(1, 9999, 32)]
        self.assertEqual(last(*before, publish(0, 10000)), [0, 2, 0, 9999 * 10 ** 10, 32, 10 ** 10])

    def test_from_hand_to_hand_within_the_period(self):
        before = [install(kind=1), read(1, 8, 1, 20), assign(1, 6, 2), assign(1, 1, 9), assign(1, 3, 2)]
        before += [assign(1, 4, 9), assign(1, 5, 9)]
        # By boundary: 0 2 5 7 10 12 15 17 20.
        self.assertEqual(last(*before, publish(0, 8)), [0, 3, 0, 2, 2, 8, 9, 10])
        self.assertEqual(last(*before, publish(2, 7)), [0, 2, 2, 5, 9, 7])
        self.assertEqual(last(*before, publish(3, 4)), [0, 1, 2, 3])
        self.assertEqual(last(*before, publish(0, 1)), [0, 1, 0, 2])

    def test_told_at_the_periods_ends(self):
        before = [install(kind=1, rate=1), assign(1, 2, 5), assign(1, 6, 7)]
        self.assertEqual(last(*before, publish(2, 6)), [0, 1, 5, 4])
        self.assertEqual(last(*before, publish(1, 7)), [0, 3, 0, 1, 5, 4, 7, 1])
        self.assertEqual(last(*before, publish(3, 5)), [0, 1, 5, 2])
        self.assertEqual(last(*before, publish(6, 6)), [0, 0])

    def test_across_registers_and_ends(self):
        before = [install(boundary=2, start=90, digits=2, factor=3), swap(1, 4, 0, start=5, factor=2)]
        before += [read(1, 6, 1, 9), remove(1, 8, 11), assign(1, 3, 1), assign(1, 5, 2)]
        # Quarter 2: 15, 3: 15, 4: 4, 5: 4, 6: 2, 7: 2.
        self.assertEqual(last(*before, publish(0, 10000)), [0, 3, 0, -15, 1, -19, 2, -8])


class Again(unittest.TestCase):
    METER = [install(kind=1, rate=1), assign(1, 0, 3), read(1, 4, 1, 8)]

    def test_unchanged(self):
        self.assertEqual(ask(*self.METER, publish(0, 4), publish(0, 4))[-2:], [[0, 1, 3, 8], [0, 0]])

    def test_after_a_correction(self):
        self.assertEqual(ask(*self.METER, publish(0, 4), read(1, 4, 2, 10), publish(0, 4))[-1], [0, 1, 3, 2])
        self.assertEqual(ask(*self.METER, publish(0, 4), read(1, 4, 2, 5), publish(0, 4))[-1], [0, 1, 3, -3])
        self.assertEqual(ask(*self.METER, publish(0, 4), read(1, 4, 2, -1), publish(0, 4))[-1], [0, 1, 3, -4])

    def test_each_time_against_the_time_before(self):
        told = ask(*self.METER, publish(0, 4), read(1, 4, 2, 10), publish(0, 4), read(1, 4, 3, 11), publish(0, 4),
                   read(1, 4, 4, 8), publish(0, 4), publish(0, 4))
        self.assertEqual(told[3::2][:3] + told[-2:], [[0, 1, 3, 8], [0, 1, 3, 2], [0, 1, 3, 1], [0, 1, 3, -3], [0, 0]])

    def test_after_another_hand_was_told(self):
        self.assertEqual(ask(*self.METER, publish(0, 4), assign(1, 1, 0), publish(0, 4))[-1], [0, 2, 0, 6, 3, -6])
        self.assertEqual(ask(*self.METER, publish(0, 4), assign(1, 0, 1), publish(0, 4))[-1], [0, 2, 1, 8, 3, -8])

    def test_a_net_that_comes_to_0(self):
        before = [*self.METER, publish(0, 4), install(kind=0, rate=2), assign(2, 0, 3)]
        self.assertEqual(ask(*before, publish(0, 4), publish(0, 4))[-2:], [[0, 1, 3, -8], [0, 0]])

    def test_after_a_new_rate(self):
        self.assertEqual(ask(*self.METER, publish(4, 6), rate(1, 5), publish(4, 6))[-1], [0, 1, 3, 8])

    def test_another_period_knows_nothing_of_it(self):
        told = ask(*self.METER, publish(0, 4), publish(0, 3), publish(1, 4), publish(0, 4))
        self.assertEqual(told[-3:], [[0, 1, 3, 6], [0, 1, 3, 6], [0, 0]])

    def test_the_lock_is_no_hindrance_and_keeps_it(self):
        told = ask(*self.METER, publish(0, 4), lock(4), read(1, 4, 2, 9), read(1, 5, 1, 9), publish(0, 4),
                   publish(0, 5))
        self.assertEqual(told[-5:], [[0], [-5], [0], [0, 0], [0, 1, 3, 9]])

    def test_sixteen_periods(self):
        periods = [publish(0, 4)] + [publish(5, end) for end in range(5, 20)]
        told = ask(*self.METER, *periods, publish(5, 20), publish(4, 4), read(1, 4, 2, 9), publish(0, 4),
                   publish(5, 19))
        self.assertEqual([part[0] for part in told[3:19]], [0] * 16)
        self.assertEqual(told[-5:], [[-4], [-4], [0], [0, 1, 3, 1], [0, 0]])

    def test_a_period_published_again_counts_once(self):
        told = ask(*[publish(0, 0)] * 20, *[publish(0, end) for end in range(17)])
        self.assertEqual(told, [[0, 0]] * 36 + [[-4]])


if __name__ == "__main__":
    unittest.main()
