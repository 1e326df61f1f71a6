"""The desk against a slow telling of the document that walks quarter by quarter and keeps plain rows."""

import itertools
import random
import unittest

from quartermeters.desk import answers
from tests.calls import (
    RANGES, ask, assign, between, doubt, gaps, hand, history, install, joined, lock, nets, parted, profile, publish,
    published, put_in, rate, read, remove, rest, standing, state, swap, through, total, unread, value,
)

NAMES = (
    "profile install read swap remove rate assign lock publish standing history value between through hand total rest "
    "nets gaps doubt unread published state"
).split()
NAMING_A_METER = (2, 3, 4, 5, 6, 9, 10, 11, 12, 13, 14, 18, 19)
REFUSING_BACKWARDS = (8, 12, 15, 16, 17)
FIRST_QUESTION = 9
ALL_QUARTERS = 10000
FEW_QUARTERS = 24
FAR = 10 ** 18


class Slow:
    """It walks so many quarters; the calls that it's asked stay within them."""

    def __init__(self, span):
        self.span = span
        self.profiles = {0: [1]}
        self.meters = {}
        self.readings = []
        self.hands = {}
        self.lock = 0
        self.periods = {}

    def stands(self, number, boundary):
        found = sorted([entry[2:] for entry in self.readings if entry[:2] == (number, boundary)])
        return found[-1] if found and found[-1][1] != -1 else None

    def knots(self, number):
        """Each knot's boundary: what is shown up to it, and what is shown from it on."""
        knots = {}
        for boundary in {entry[1] for entry in self.readings if entry[0] == number}:
            found = self.stands(number, boundary)
            if found:
                knots[boundary] = [found[1], found[1]]
        for start, shown, digits, factor, end, ended in self.meters[number]["rows"]:
            knots.setdefault(start, [None, None])[1] = shown
            if end is not None:
                knots.setdefault(end, [None, None])[0] = ended
        return knots

    def row_of(self, number, quarter):
        return [row for row in self.meters[number]["rows"] if row[0] <= quarter][-1]

    def stretches(self, number):
        """Both boundaries of each pair of neighbouring knots, and what goes through between them."""
        knots = self.knots(number)
        told = []
        for a, b in itertools.pairwise(sorted(knots)):
            row = self.row_of(number, a)
            told.append((a, b, (knots[b][0] - knots[a][1]) % 10 ** row[2] * row[3]))
        return told

    def quarters(self, number):
        """How each quarter is known, and its value."""
        meter = self.meters[number]
        weights = self.profiles[meter["profile"]]
        told = [(0, 0)] * min(self.knots(number))
        for a, b, whole in self.stretches(number):
            spread = [weights[quarter % len(weights)] for quarter in range(a, b)]
            if sum(spread) == 0:
                spread = [1] * (b - a)
            in_all = sum(spread)
            by = [whole * part // in_all for part in itertools.accumulate(spread, initial=0)]
            told += [(1 if b == a + 1 else 2, after - before) for before, after in itertools.pairwise(by)]
        last = meter["rows"][-1]
        tail = (3, meter["rate"] * last[3]) if last[4] is None else (0, 0)
        return told + [tail] * (self.span - len(told))

    def amounts(self, number, start, end):
        return [amount for how, amount in self.quarters(number)[start:end]]

    def holders(self, number, start, end):
        """In whose hand the meter is at each of these quarters."""
        told = []
        holder = 0
        for quarter in range(end):
            holder = self.hands.get((number, quarter), holder)
            told.append(holder)
        return told[start:]

    def in_hands(self, kind, zones, start, end):
        """What goes through the meters of this kind and of these zones, by hand."""
        told = [0] * 33
        for number, meter in self.meters.items():
            if meter["kind"] == kind and meter["zone"] in zones:
                for holder, amount in zip(self.holders(number, start, end), self.amounts(number, start, end)):
                    told[holder] += amount
        return told

    def nets(self, start, end):
        both = [self.in_hands(kind, range(8), start, end) for kind in (1, 0)]
        return [into - out for into, out in zip(*both)]

    def unread(self, number, boundary):
        knots = self.knots(number)
        end = self.meters[number]["rows"][-1][4]
        return min(knots) < boundary and not (end is not None and end < boundary) and boundary not in knots

    def listed(self, by_hand):
        told = [pair for pair in enumerate(by_hand) if pair[1] != 0]
        return [len(told)] + joined(told)

    def is_out_of_range(self, call):
        if call[0] == 0:
            return not 1 <= call[1] <= 96 or [weight for weight in call[2:] if not 0 <= weight <= 1000] != []
        return not all([least <= number <= most for number, (least, most) in zip(call[1:], RANGES[call[0]])])

    def answer(self, call):
        if self.is_out_of_range(call):
            return [-1]
        if call[0] in NAMING_A_METER and call[1] not in self.meters:
            return [-3]
        if call[0] in REFUSING_BACKWARDS and call[-1] < call[-2]:
            return [-11]
        return getattr(self, "do_" + NAMES[call[0]])(*call[1:])

    def do_profile(self, count, *weights):
        if len(self.profiles) == 9:
            return [-4]
        number = len(self.profiles)
        self.profiles[number] = weights
        return [0, number]

    def do_install(self, kind, zone, second, boundary, digits, factor, start, profile, rate):
        for holds, refusal in (
            (zone == second if kind == 2 else second != 0, -12), (profile not in self.profiles, -2),
            (boundary < self.lock, -5), (len(str(start)) > digits, -7), (len(self.meters) == 32, -4),
        ):
            if holds:
                return [refusal]
        number = len(self.meters) + 1
        rows = [(boundary, start, digits, factor, None, None)]
        self.meters[number] = {
            "kind": kind, "zone": zone, "second": second, "profile": profile, "rate": rate, "rows": rows,
        }
        return [0, number]

    def do_read(self, number, boundary, version, shown):
        rows = [row for row in self.meters[number]["rows"]
                if row[0] < boundary and not (row[4] is not None and row[4] <= boundary)]
        if boundary <= self.lock:
            return [-5]
        if not rows:
            return [-6]
        if shown != -1 and len(str(shown)) > rows[0][2]:
            return [-7]
        if (number, boundary, version) in [entry[:3] for entry in self.readings]:
            return [-8]
        if len(self.readings) == 256:
            return [-4]
        self.readings.append((number, boundary, version, shown))
        return [0]

    def ending(self, number, boundary, end):
        last = self.meters[number]["rows"][-1]
        later = [entry for entry in self.readings if entry[0] == number and entry[1] >= boundary]
        for holds, refusal in (
            (boundary <= self.lock, -5), (last[4] is not None or boundary <= last[0], -6), (later, -9),
            (len(str(end)) > last[2], -7),
        ):
            if holds:
                return refusal
        return 0

    def end(self, number, boundary, end):
        rows = self.meters[number]["rows"]
        rows[-1] = rows[-1][:4] + (boundary, end)

    def do_swap(self, number, boundary, end, start, digits, factor):
        refusal = self.ending(number, boundary, end)
        if refusal == 0 and len(str(start)) > digits:
            refusal = -7
        if refusal == 0 and len(self.meters[number]["rows"]) == 8:
            refusal = -4
        if refusal == 0:
            self.end(number, boundary, end)
            self.meters[number]["rows"].append((boundary, start, digits, factor, None, None))
        return [refusal]

    def do_remove(self, number, boundary, end):
        refusal = self.ending(number, boundary, end)
        if refusal == 0:
            self.end(number, boundary, end)
        return [refusal]

    def do_rate(self, number, rate):
        self.meters[number]["rate"] = rate
        return [0]

    def do_assign(self, number, quarter, holder):
        if self.meters[number]["kind"] == 2:
            return [-12]
        if quarter < self.lock:
            return [-5]
        if len(self.hands) == 64 and (number, quarter) not in self.hands:
            return [-4]
        self.hands[(number, quarter)] = holder
        return [0]

    def do_lock(self, boundary):
        if boundary <= self.lock:
            return [-5]
        if [number for number in self.meters if self.unread(number, boundary)]:
            return [-10]
        self.lock = boundary
        return [0]

    def do_publish(self, start, end):
        if len(self.periods) == 16 and (start, end) not in self.periods:
            return [-4]
        before = self.periods.get((start, end), [0] * 33)
        self.periods[(start, end)] = self.nets(start, end)
        return [0] + self.listed([now - then for now, then in zip(self.periods[(start, end)], before)])

    def do_standing(self, number, boundary):
        found = self.stands(number, boundary)
        return [0, *found] if found else [0, 0]

    def do_history(self, number, boundary):
        found = sorted([entry[2:] for entry in self.readings if entry[:2] == (number, boundary)])
        return [0, len(found)] + joined(found)

    def do_value(self, number, quarter):
        return [0, *self.quarters(number)[quarter]]

    def do_between(self, number, start, end):
        return [0, sum(self.amounts(number, start, end))]

    def do_through(self, number, boundary):
        return [0, sum(self.amounts(number, 0, boundary))]

    def do_hand(self, number, quarter):
        return [0, *self.holders(number, quarter, quarter + 1)]

    def do_total(self, holder, zone, start, end):
        return [0] + [self.in_hands(kind, [zone], start, end)[holder] for kind in (1, 0)]

    def do_rest(self, zone, start, end):
        told = 0
        for number, meter in self.meters.items():
            into = {0: [], 1: [meter["zone"]], 2: [meter["second"]]}[meter["kind"]]
            out = {0: [meter["zone"]], 1: [], 2: [meter["zone"]]}[meter["kind"]]
            told += ((zone in into) - (zone in out)) * sum(self.amounts(number, start, end))
        return [0, told]

    def do_nets(self, start, end):
        return [0] + self.listed(self.nets(start, end))

    def do_gaps(self, number):
        told = self.stretches(number)
        return [0, len(told)] + joined(told)

    def do_doubt(self, number, most):
        told = [(a, b) for a, b, amount in self.stretches(number) if amount > most * (b - a)]
        return [0, len(told)] + joined(told)

    def do_unread(self, boundary):
        told = [number for number in sorted(self.meters) if self.unread(number, boundary)]
        return [0, len(told)] + told

    def do_published(self, start, end):
        if (start, end) not in self.periods:
            return [0, 0]
        return [0, 1] + self.listed(self.periods[(start, end)])

    def do_state(self):
        counts = [len(self.profiles) - 1, len(self.meters), len(self.readings), len(self.hands)]
        return [0] + counts + [self.lock, len(self.periods)]


class Drawing:
    """Draws calls whose numbers mostly lie within their ranges and close enough to one another to meet."""

    def __init__(self, seed, span):
        self.draw = random.Random(seed)
        self.number = self.draw.randint
        self.span = span

    def boundary(self):
        if self.span == FEW_QUARTERS:
            return self.number(0, self.span)
        return self.number(*self.draw.choice([(0, 30), (0, self.span), (self.span - 20, self.span)]))

    def quarter(self):
        return min(self.boundary(), self.span - 1)

    def period(self):
        one, other = self.boundary(), self.boundary()
        ordered = [min(one, other), max(one, other)]
        return self.draw.choice([ordered, ordered, [one, other], [3, 17], [0, self.span], [one, one]])

    def meter(self):
        return self.draw.choice([1, 2, 3, 4, 1, 2, 3, 4, 1, 2, 3, 5, 6, 7])

    def shown(self):
        return self.number(0, self.draw.choice([9, 99, 1100]))

    def most(self):
        return self.draw.choice([0, self.number(0, 9), self.number(0, 300), 10 ** 12])

    def profile(self):
        return profile(*[self.number(0, self.draw.choice([0, 3])) for weight in range(self.number(1, 5))])

    def install(self, kind, boundary):
        second = self.number(0, 2) if kind == 2 else self.draw.choice([0] * 9 + [1])
        return install(kind, self.number(0, 2), second, boundary, self.number(1, 4), self.number(1, 3), self.shown(),
                       self.draw.choice([0, 1, 2] * 3 + [3]), self.number(0, 5))

    def read(self):
        return read(self.meter(), self.boundary(), self.number(1, 4), self.draw.choice([-1, *[self.shown()] * 3]))

    def swap(self):
        return swap(self.meter(), self.boundary(), self.shown(), self.shown(), self.number(1, 4), self.number(1, 3))

    def remove(self):
        return remove(self.meter(), self.boundary(), self.shown())

    def right_call(self):
        kinds = [
            (1, self.profile),
            (2, lambda: self.install(self.number(0, 2), self.number(0, 9))),
            (30, self.read),
            (5, self.swap),
            (1, self.remove),
            (3, lambda: rate(self.meter(), self.number(0, 5))),
            (8, lambda: assign(self.meter(), self.quarter(), self.number(0, 4))),
            (2, lambda: lock(self.number(0, 8))),
            (6, lambda: publish(*self.period())),
            (4, lambda: standing(self.meter(), self.boundary())),
            (4, lambda: history(self.meter(), self.boundary())),
            (6, lambda: value(self.meter(), self.quarter())),
            (8, lambda: between(self.meter(), *self.period())),
            (8, lambda: through(self.meter(), self.boundary())),
            (8, lambda: hand(self.meter(), self.quarter())),
            (8, lambda: total(self.number(0, 4), self.number(0, 2), *self.period())),
            (8, lambda: rest(self.number(0, 2), *self.period())),
            (8, lambda: nets(*self.period())),
            (6, lambda: gaps(self.meter())),
            (6, lambda: doubt(self.meter(), self.most())),
            (6, lambda: unread(self.boundary())),
            (6, lambda: published(*self.period())),
            (4, state),
        ]
        return self.draw.choices([make for often, make in kinds], [often for often, make in kinds])[0]()

    def spoiled(self, call):
        """The call with one of its numbers out of its range, if it has any."""
        if call[0] == 0:
            return self.draw.choice([profile(), profile(*[1] * 97), profile(1, -1), profile(1001), profile(FAR, 1)])
        if RANGES[call[0]] == []:
            return call
        place = self.draw.randrange(len(RANGES[call[0]]))
        least, most = RANGES[call[0]][place]
        return put_in(call, place, self.draw.choice([least - 1, most + 1, -FAR, FAR]))

    def call(self):
        call = self.right_call()
        return self.spoiled(call) if self.number(1, 25) == 1 else call

    def calls(self, count=400):
        """Some profiles, meters of every kind and swaps, and calls that mostly find them."""
        first = [self.profile(), self.profile()]
        first += [self.install(kind, self.number(0, 4)) for kind in (0, 1, 2, 0, 1, 2)]
        # Readings stand in the way of swaps and removes, so most of these come before them.
        first += [self.swap() for place in range(12)] + [self.remove() for place in range(2)]
        return first + [self.call() for place in range(count - len(first))]


class AgainstSlow(unittest.TestCase):
    def hold(self, seed, span):
        calls = Drawing(seed, span).calls()
        slow = Slow(span)
        expected = [slow.answer(call) for call in calls]
        with self.subTest(seed=seed):
            self.assertEqual(ask(*calls), expected)

    def test_drawn_calls(self):
        for seed in range(60):
            self.hold(seed, FEW_QUARTERS)

    def test_drawn_calls_over_all_quarters(self):
        for seed in range(2000, 2004):
            self.hold(seed, ALL_QUARTERS)

    def test_every_call_is_drawn_and_accepted_and_every_refusal_comes(self):
        told = [(call[0], part[0]) for seed in range(60) for calls in [Drawing(seed, FEW_QUARTERS).calls()]
                for call, part in zip(calls, ask(*calls))]
        self.assertEqual({place for place, first in told if first == 0}, set(range(23)))
        self.assertEqual({first for place, first in told}, set(range(-12, 1)))
        self.assertEqual({place for place, first in told if first == -1}, set(range(22)))
        self.assertEqual({place for place, first in told if first == -3}, set(NAMING_A_METER))
        self.assertEqual({place for place, first in told if first == -11}, set(REFUSING_BACKWARDS))


class LeftOut(unittest.TestCase):
    def hold(self, seed, is_left_out):
        """The others answer the same with and without the calls that are left out."""
        calls = Drawing(seed, FEW_QUARTERS).calls()
        others = [(call, part) for call, part in zip(calls, ask(*calls)) if not is_left_out(call, part)]
        with self.subTest(seed=seed):
            self.assertLess(len(others), len(calls))
            self.assertEqual(ask(*[call for call, part in others]), [part for call, part in others])

    def test_refused_calls_might_as_well_not_have_been(self):
        for seed in range(1000, 1030):
            self.hold(seed, lambda call, part: part[0] != 0)

    def test_each_question_changes_nothing(self):
        for place in range(FIRST_QUESTION, len(NAMES)):
            for seed in range(1100, 1105):
                self.hold(seed, lambda call, part: call[0] == place)

    def test_all_questions_together_change_nothing(self):
        for seed in range(1200, 1210):
            self.hold(seed, lambda call, part: call[0] >= FIRST_QUESTION)

    def test_a_question_asked_twice_answers_twice_the_same(self):
        for seed in range(1300, 1310):
            calls = Drawing(seed, FEW_QUARTERS).calls(200)
            told = list(zip(calls, ask(*calls)))
            twice = [pair for pair in told for again in range(1 + (pair[0][0] >= FIRST_QUESTION))]
            with self.subTest(seed=seed):
                self.assertEqual(ask(*[call for call, part in twice]), [part for call, part in twice])


class TheList(unittest.TestCase):
    def test_stays_as_it_is_and_is_answered_the_same_a_second_time(self):
        for seed in range(3000, 3010):
            calls = joined(Drawing(seed, FEW_QUARTERS).calls())
            copy = list(calls)
            first = answers(calls)
            with self.subTest(seed=seed):
                self.assertEqual(calls, copy)
                self.assertEqual(len(parted(first)), 400)
                self.assertEqual({type(number) for number in first}, {int})
                answers(joined(Drawing(seed + 500, FEW_QUARTERS).calls()))
                self.assertEqual(answers(calls), first)


if __name__ == "__main__":
    unittest.main()
