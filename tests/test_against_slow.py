"""The desk against a slow telling of the document that walks quarter by quarter and keeps plain rows."""

import random
import unittest

from tests.calls import (
    ask, assign, history, install, lock, profile, publish, rate, read, remove, standing, swap, value,
)

# The slow one walks this many quarters; the calls drawn stay within them.
SPAN = 24


class Slow:
    def __init__(self):
        self.profiles = {0: [1]}
        self.meters = {}
        self.readings = []
        self.hands = {}
        self.lock = 0
        self.periods = {}

    def stands(self, number, boundary):
        found = sorted([entry[2:] for entry in self.readings if entry[:2] == (number, boundary)])
        return found[-1] if found and found[-1][1] != -1 else None

    def knots(self, number):
        """Each knot's boundary: what is shown up to it, and what is shown from it on."""
        knots = {}
        for boundary in range(SPAN + 1):
            found = self.stands(number, boundary)
            if found:
                knots[boundary] = [found[1], found[1]]
        for start, shown, digits, factor, end, ended in self.meters[number]["rows"]:
            knots.setdefault(start, [None, None])[1] = shown
            if end is not None:
                knots.setdefault(end, [None, None])[0] = ended
        return knots

    def row_of(self, number, quarter):
        return [row for row in self.meters[number]["rows"] if row[0] <= quarter][-1]

    def quarters(self, number):
        """How each quarter is known, and its value."""
        meter = self.meters[number]
        knots = self.knots(number)
        bounds = sorted(knots)
        told = [(0, 0)] * bounds[0]
        for a, b in zip(bounds, bounds[1:]):
            row = self.row_of(number, a)
            whole = (knots[b][0] - knots[a][1]) % 10 ** row[2] * row[3]
            weights = self.profiles[meter["profile"]]
            spread = [weights[quarter % len(weights)] for quarter in range(a, b)]
            if sum(spread) == 0:
                spread = [1] * (b - a)
            by = [whole * sum(spread[:count]) // sum(spread) for count in range(b - a + 1)]
            told += [(1 if b == a + 1 else 2, after - before) for before, after in zip(by, by[1:])]
        last = meter["rows"][-1]
        tail = (3, meter["rate"] * last[3]) if last[4] is None else (0, 0)
        return told + [tail] * (SPAN - len(told))

    def hand(self, number, quarter):
        told = [at for meter, at in self.hands if meter == number and at <= quarter]
        return self.hands[(number, max(told))] if told else 0

    def nets(self, start, end):
        nets = {hand: 0 for hand in range(33)}
        for number, meter in self.meters.items():
            quarters = self.quarters(number)
            for quarter in range(start, end):
                nets[self.hand(number, quarter)] += {0: -1, 1: 1, 2: 0}[meter["kind"]] * quarters[quarter][1]
        return nets

    def unread(self, number, boundary):
        knots = self.knots(number)
        end = self.meters[number]["rows"][-1][4]
        return min(knots) < boundary and not (end is not None and end < boundary) and boundary not in knots

    def answer(self, call):
        place = call[0]
        if place in (2, 3, 4, 5, 6, 9, 10, 11) and call[1] not in self.meters:
            return [-3]
        name = "profile install read swap remove rate assign lock publish standing history value".split()[place]
        return getattr(self, "do_" + name)(*call[1:])

    def do_profile(self, count, *weights):
        if len(self.profiles) == 9:
            return [-4]
        number = len(self.profiles)
        self.profiles[number] = weights
        return [0, number]

    def do_install(self, kind, zone, second, boundary, digits, factor, start, profile, rate):
        for holds, refusal in (
            (zone == second if kind == 2 else second != 0, -12), (profile not in self.profiles, -2),
            (boundary < self.lock, -5), (len(str(start)) > digits, -7), (len(self.meters) == 32, -4),
        ):
            if holds:
                return [refusal]
        number = len(self.meters) + 1
        rows = [(boundary, start, digits, factor, None, None)]
        self.meters[number] = {"kind": kind, "profile": profile, "rate": rate, "rows": rows}
        return [0, number]

    def do_read(self, number, boundary, version, shown):
        rows = [row for row in self.meters[number]["rows"]
                if row[0] < boundary and not (row[4] is not None and row[4] <= boundary)]
        if boundary <= self.lock:
            return [-5]
        if not rows:
            return [-6]
        if shown != -1 and len(str(shown)) > rows[0][2]:
            return [-7]
        if (number, boundary, version) in [entry[:3] for entry in self.readings]:
            return [-8]
        if len(self.readings) == 256:
            return [-4]
        self.readings.append((number, boundary, version, shown))
        return [0]

    def ending(self, number, boundary, end):
        last = self.meters[number]["rows"][-1]
        later = [entry for entry in self.readings if entry[0] == number and entry[1] >= boundary]
        for holds, refusal in (
            (boundary <= self.lock, -5), (last[4] is not None or boundary <= last[0], -6), (later, -9),
            (len(str(end)) > last[2], -7),
        ):
            if holds:
                return refusal
        return 0

    def end(self, number, boundary, end):
        rows = self.meters[number]["rows"]
        rows[-1] = rows[-1][:4] + (boundary, end)

    def do_swap(self, number, boundary, end, start, digits, factor):
        refusal = self.ending(number, boundary, end)
        if refusal == 0 and len(str(start)) > digits:
            refusal = -7
        if refusal == 0 and len(self.meters[number]["rows"]) == 8:
            refusal = -4
        if refusal == 0:
            self.end(number, boundary, end)
            self.meters[number]["rows"].append((boundary, start, digits, factor, None, None))
        return [refusal]

    def do_remove(self, number, boundary, end):
        refusal = self.ending(number, boundary, end)
        if refusal == 0:
            self.end(number, boundary, end)
        return [refusal]

    def do_rate(self, number, rate):
        self.meters[number]["rate"] = rate
        return [0]

    def do_assign(self, number, quarter, hand):
        if self.meters[number]["kind"] == 2:
            return [-12]
        if quarter < self.lock:
            return [-5]
        if len(self.hands) == 64 and (number, quarter) not in self.hands:
            return [-4]
        self.hands[(number, quarter)] = hand
        return [0]

    def do_lock(self, boundary):
        if boundary <= self.lock:
            return [-5]
        if [number for number in self.meters if self.unread(number, boundary)]:
            return [-10]
        self.lock = boundary
        return [0]

    def do_publish(self, start, end):
        if end < start:
            return [-11]
        if len(self.periods) == 16 and (start, end) not in self.periods:
            return [-4]
        before = self.periods.get((start, end), {})
        nets = self.nets(start, end)
        self.periods[(start, end)] = nets
        told = [(hand, nets[hand] - before.get(hand, 0)) for hand in sorted(nets)]
        told = [pair for pair in told if pair[1]]
        return [0, len(told)] + [number for pair in told for number in pair]

    def do_standing(self, number, boundary):
        found = self.stands(number, boundary)
        return [0, *found] if found else [0, 0]

    def do_history(self, number, boundary):
        found = sorted([entry[2:] for entry in self.readings if entry[:2] == (number, boundary)])
        return [0, len(found)] + [part for entry in found for part in entry]

    def do_value(self, number, quarter):
        return [0, *self.quarters(number)[quarter]]


def draw_call(draw):
    """A call whose numbers lie within their ranges and close enough to one another to meet."""
    meter = draw.randint(1, 4)
    boundary = draw.randint(0, SPAN)
    quarter = draw.randint(0, SPAN - 1)
    shown = draw.choice([draw.randint(0, 9), draw.randint(0, 99), draw.randint(0, 1100)])
    start = draw.choice([draw.randint(0, 9), draw.randint(0, 99), draw.randint(0, 1100)])
    digits = draw.randint(1, 4)
    factor = draw.randint(1, 3)
    kind = draw.randint(0, 2)
    second = draw.randint(0, 1) if kind == 2 else draw.choice([0, 0, 0, 0, 1])
    ends = draw.sample(range(SPAN + 1), 2)
    ends = draw.choice([sorted(ends), sorted(ends), ends, [3, 17], [0, SPAN], [boundary, boundary]])
    kinds = [
        lambda: profile(*[draw.randint(0, 3) for weight in range(draw.randint(1, 5))]),
        lambda: install(kind, draw.randint(0, 1), second, draw.randint(0, 9), digits, factor, start,
                        draw.randint(0, 2), draw.randint(0, 5)),
        lambda: read(meter, boundary, draw.randint(1, 3), draw.choice([-1, shown, shown])),
        lambda: swap(meter, boundary, shown, start, digits, factor),
        lambda: remove(meter, boundary, shown),
        lambda: rate(meter, draw.randint(0, 5)),
        lambda: assign(meter, quarter, draw.randint(0, 4)),
        lambda: lock(draw.randint(0, 6)),
        lambda: publish(*ends),
        lambda: standing(meter, boundary),
        lambda: history(meter, boundary),
        lambda: value(meter, quarter),
    ]
    return draw.choices(kinds, [1, 2, 20, 4, 1, 3, 8, 2, 8, 6, 6, 20])[0]()


def draw_calls(draw):
    """Some profiles and meters, and calls that mostly find them."""
    calls = [profile(*[draw.randint(0, 3) for weight in range(draw.randint(1, 5))]) for place in range(2)]
    for meter in range(3):
        kind = draw.randint(0, 2)
        calls.append(install(kind, 0, kind // 2, draw.randint(0, 4), draw.randint(1, 4), draw.randint(1, 3),
                             draw.randint(0, 9), draw.randint(0, 2), draw.randint(0, 5)))
    return calls + [draw_call(draw) for place in range(145)]


class AgainstSlow(unittest.TestCase):
    def test_drawn_calls(self):
        for seed in range(250):
            draw = random.Random(seed)
            calls = draw_calls(draw)
            slow = Slow()
            expected = [slow.answer(call) for call in calls]
            with self.subTest(seed=seed):
                self.assertEqual(ask(*calls), expected)

    def test_refused_calls_might_as_well_not_have_been(self):
        for seed in range(1000, 1100):
            draw = random.Random(seed)
            calls = draw_calls(draw)
            told = list(zip(calls, ask(*calls)))
            accepted = [(call, part) for call, part in told if part[0] == 0]
            with self.subTest(seed=seed):
                self.assertEqual(ask(*[call for call, part in accepted]), [part for call, part in accepted])


if __name__ == "__main__":
    unittest.main()
