"""Point 18."""

import random
import unittest

from judges import ODD_VALUES, RING, Judge
from shapeholes.bottleneck import bottleneck, is_matching
from shapeholes.errors import BadBars
from shapeholes.filtrations import Filtration

TWELVE = tuple((10 * k, 10 * k + 5) for k in range(12))
ENDLESS = tuple((9 * k, None) for k in range(12))
FILTRATION = Filtration(RING, (0,) * 6)


def some_bars(source, most, last=30):
    row = []
    for _ in range(source.randint(0, most)):
        begin = source.randint(0, last - 1)
        row.append((begin, source.choice([None, source.randint(begin + 1, last), source.randint(begin + 1, last)])))
    return tuple(row)


def cost(one, other):
    """Twice the distance; more than any distance if there is none."""
    if one is None or other is None:
        begin, end = one or other
        return 9999 if end is None else end - begin
    if (one[1] is None) != (other[1] is None):
        return 9999
    return 2 * max(abs(one[0] - other[0]), 0 if one[1] is None else abs(one[1] - other[1]))


def least_doubled(one, other):
    """The least number, by going through all sets of bars of the other row that the first bars of one take."""
    worst = {0: 0}
    for bar in one:
        after = {}
        for taken, number in worst.items():
            choices = [(taken, cost(bar, None))] + [
                (taken | 1 << k, cost(bar, other[k])) for k in range(len(other)) if not taken >> k & 1]
            for mask, more in choices:
                after[mask] = min(after.get(mask, 99999), max(number, more))
        worst = after
    found = min(max([number] + [cost(None, other[k]) for k in range(len(other)) if not mask >> k & 1])
                for mask, number in worst.items())
    return None if found >= 9999 else found


class Matchings(Judge, unittest.TestCase):
    def test_distances(self):
        one, other = ((3, 9),), ((5, 8),)
        for value, least in ((((0, 0),), 4), (((0, None), (None, 0)), 6), (((None, 0), (0, None)), 6)):
            self.assertFalse(is_matching(one, other, value, least - 1))
            self.assertTrue(is_matching(one, other, value, least))
            self.assertTrue(is_matching(one, other, value, 10 ** 30))
        self.assertTrue(is_matching(((3, 9),), ((4, 12),), ((0, 0),), 6))
        self.assertFalse(is_matching(((3, 9),), ((4, 12),), ((0, 0),), 5))
        self.assertTrue(is_matching(((0, 1000),), ((0, 1000),), ((0, 0),), 0))
        self.assertFalse(is_matching(((0, 1000),), ((0, 1000),), ((0, 0),), -1))

    def test_without_ends(self):
        self.assertTrue(is_matching(((1000, None),), ((0, None),), ((0, 0),), 2000))
        self.assertFalse(is_matching(((1000, None),), ((0, None),), ((0, 0),), 1999))
        self.assertFalse(is_matching(((0, None),), ((0, 1000),), ((0, 0),), 10 ** 9))
        self.assertFalse(is_matching(((0, 1000),), ((0, None),), ((0, 0),), 10 ** 9))
        self.assertFalse(is_matching(((5, None),), (), ((0, None),), 10 ** 9))
        self.assertFalse(is_matching((), ((5, None),), ((None, 0),), 10 ** 9))

    def test_nothing(self):
        for doubled in (-1, 0, 3):
            self.assertTrue(is_matching((), (), (), doubled))
            self.assertFalse(is_matching((), (), ((None, None),), doubled))
        self.assertFalse(is_matching(((0, 1),), (), (), 9))
        self.assertTrue(is_matching(((0, 1),), (), ((0, None),), 1))
        self.assertTrue(is_matching((), ((0, 1),), ((None, 0),), 1))

    def test_each_index_once(self):
        one, other = ((0, 1), (0, 2), (0, 3)), ((0, 1), (0, 2))
        for value in (((0, 0), (1, 1), (2, None)), ((2, 1), (0, None), (1, 0)), ((0, None), (1, None), (2, None), (None, 1), (None, 0))):
            self.assertTrue(is_matching(one, other, value, 99))
        for value in (((0, 0), (1, 1)), ((0, 0), (1, 1), (1, None)), ((0, 0), (1, 1), (2, 1)), ((0, 0), (1, 1), (3, None)),
                      ((0, 0), (1, 1), (2, None), (None, None)), ((0, 0), (1, 1), (-1, None)), ((0, 0), (1, 2), (2, None)),
                      ((0, 0), (1, None), (2, None)), ((0, 0), (1, 1), (2, None), (2, None)), ((0, 0), (1, 1), (2, None), (None, 1)),
                      ((False, 0), (1, 1), (2, None)), ((0, 0), (1, True), (2, None)), ([0, 0], (1, 1), (2, None)),
                      ((0, 0, 0), (1, 1), (2, None)), ((0,), (1, 1), (2, None)), [(0, 0), (1, 1), (2, None)],
                      ((0, 0), (1, 1), ("2", None)), ((0, 0), (1, 1), ((2,), None)), ((0, 0), (1, 1), (RING, None)),
                      ((0, 0), (1, 1), None), ((0, 0), (1, 1), 2)):
            self.assertFalse(is_matching(one, other, value, 99), value)

    def test_of_any_value(self):
        for value in ODD_VALUES + (FILTRATION, ((FILTRATION, RING),)):
            self.assertFalse(is_matching(((0, 1),), ((0, 1),), value, 99))
            if value != (0, 0):
                self.assertFalse(is_matching(((0, 1),), ((0, 1),), (value,), 99))
            if value != ():
                self.assertFalse(is_matching((), (), value, 99))
        for doubled in (None, True, "9", (9,), [], RING):
            self.assertFalse(is_matching(((0, 1),), ((0, 1),), ((0, 0),), doubled))

    def test_twelve(self):
        straight = tuple((k, k) for k in range(12))
        self.assertTrue(is_matching(TWELVE, TWELVE, straight, 0))
        self.assertTrue(is_matching(ENDLESS, ENDLESS, straight, 0))
        self.assertFalse(is_matching(ENDLESS, ENDLESS, tuple((k, 11 - k) for k in range(12)), 197))
        self.assertTrue(is_matching(ENDLESS, ENDLESS, tuple((k, 11 - k) for k in range(12)), 198))


class Bottleneck(Judge, unittest.TestCase):
    def judge(self, one, other):
        found = bottleneck(one, other)
        wanted = least_doubled(one, other)
        if wanted is None:
            self.assertIsNone(found)
            return
        doubled, matching = found
        self.assertIsInstance(found, tuple)
        self.assertEqual(doubled, wanted)
        self.assertTrue(is_matching(one, other, matching, doubled))
        self.assertFalse(is_matching(one, other, matching, doubled - 1) and (one or other))

    def test_all_kinds(self):
        for seed in range(300):
            source = random.Random(seed)
            self.judge(some_bars(source, 5), some_bars(source, 5))

    def test_with_as_many_endless(self):
        for seed in range(100):
            source = random.Random(seed)
            endless = [[(source.randint(0, 30), None) for _ in range(seed % 4)] for _ in range(2)]
            rows = [[bar for bar in some_bars(source, 5) if bar[1] is not None] + more for more in endless]
            for row in rows:
                source.shuffle(row)
            self.judge(tuple(rows[0]), tuple(rows[1]))

    def test_twelve_bars(self):
        for seed in range(6):
            source = random.Random(seed)
            rows = []
            for _ in range(2):
                begins = [source.randint(0, 200) for _ in range(12)]
                rows.append(tuple((begin, None if k < seed else source.randint(begin + 1, 300))
                                  for k, begin in enumerate(begins)))
            self.judge(*rows)
        self.judge(TWELVE, TWELVE)
        self.judge(ENDLESS, tuple((bar[0] + 4, None) for bar in ENDLESS[::-1]))
        self.judge(TWELVE, ())
        self.judge((), TWELVE)

    def test_known_ones(self):
        self.assertEqual(bottleneck((), ()), (0, ()))
        self.assertEqual(bottleneck(((0, 1000),), ()), (1000, ((0, None),)))
        self.assertEqual(bottleneck((), ((0, 7),)), (7, ((None, 0),)))
        self.assertEqual(bottleneck(((0, None),), ((1000, None),)), (2000, ((0, 0),)))
        self.assertEqual(bottleneck(((0, 10),), ((1, 10),)), (2, ((0, 0),)))
        self.assertEqual(bottleneck(((0, 2),), ((6, 9),))[0], 3)
        for one, other in (((0, None),), ()), (((0, None),), ((0, 1000),)), (ENDLESS, ENDLESS[1:]), (TWELVE, ENDLESS):
            self.assertIsNone(bottleneck(one, other))
            self.assertIsNone(bottleneck(other, one))

    def test_bad_bars(self):
        calls = ((lambda value: bottleneck(value, None)), (lambda value: bottleneck((), value)),
                 (lambda value: is_matching(value, None, None, None)), (lambda value: is_matching((), value, None, None)))
        for call in calls:
            for value in (None, 3, True, "", [], [(0, 1)], {}, RING, FILTRATION, ((0, 1),) * 13, (None,) * 13):
                self.assert_raises(BadBars(None), call, value)
            for item in (None, 0, (), (0,), (0, 1, 2), [0, 1], (1, 1), (2, 1), (-1, 3), (0, 1001), (1001, None), (True, 3),
                         (0, True), (0, "1"), ("0", 1), (None, 1), (None, None), ((0,), 1), (0, (1,)), "01", RING, {}):
                self.assert_raises(BadBars(0), call, (item,))
                self.assert_raises(BadBars(2), call, ((0, 1000), (1000, None), item, None))
                self.assert_raises(BadBars(11), call, TWELVE[:11] + (item,))
        self.assert_raises(BadBars(0), bottleneck, (None,), None)


if __name__ == "__main__":
    unittest.main()
