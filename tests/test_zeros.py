"""What stages 10 and 13 need of sums of binomials: where they are 0, and where all of some are small."""

import random
import unittest

from signedcounts.power.zeros import place_within, sum_at, zeros
from signedcounts.turn.lattices import left_over, parted, reduced_rows


def slow_sum(parts, number):
    total, ways = 0, 1
    for size, part in enumerate(parts):
        total += ways * part
        ways = ways * (number - size) // (size + 1)
    return total


def is_within(sums, limit, place):
    return all(abs(slow_sum(parts, place)) <= limit for parts in sums)


class Sums(unittest.TestCase):
    def test_sums_and_zeros(self):
        source = random.Random(1)
        for _ in range(100):
            parts = [source.randint(-9, 9) for _ in range(source.randrange(2, 6))]
            parts[-1] = parts[-1] or 1
            self.assertEqual([sum_at(parts, k) for k in range(-9, 10)], [slow_sum(parts, k) for k in range(-9, 10)])
            found = zeros(parts)
            self.assertEqual([k for k in range(-60, 60) if slow_sum(parts, k) == 0], [k for k in found if -60 <= k < 60])


class Places(unittest.TestCase):
    def check(self, sums, limit, tries, wanted):
        before = [list(parts) for parts in sums]
        place = place_within(sums, limit, tries)
        self.assertEqual(sums, before)
        self.assertEqual(is_within(sums, limit, place), wanted, (sums, limit, place))

    def test_one_of_those_to_try(self):
        self.check([[5, 1], [3, 0, 0]], 6, [70, 1, -90], True)
        self.assertEqual(place_within([[0, 1], [4]], 10, [7, -3, 9]), -3)

    def test_by_trying(self):
        source = random.Random(2)
        some = 0
        for _ in range(200):
            limit = source.choice((20, 300, 4000))
            middle = source.randint(-150, 150)
            sums = [[source.randint(-limit, limit), source.choice((1, -1, 2))]]
            for _ in range(source.randrange(4)):
                parts = [0] + [source.randint(-6, 6) for _ in range(source.randrange(1, 5))]
                # Made so that they are often within the limit near one place, and seldom elsewhere.
                sums.append([source.randint(-limit, limit) - slow_sum(parts, middle)] + parts[1:])
            source.shuffle(sums)
            wanted = any(is_within(sums, limit, place) for place in range(-2 * limit, 2 * limit + 1))
            some += wanted
            self.check(sums, limit, [9999], wanted)
        self.assertTrue(50 < some < 190, some)

    def test_far_places(self):
        far = 10 ** 120 + 7
        for parts in ([0, 3, 1], [0, -5, 2, 9], [0, 1, 0, 0, 1]):
            moved = [7 - slow_sum(parts, far)] + parts[1:]
            self.check([[0, 1], moved], 10 ** 121, [0, 1], True)
            self.check([[0, 1], moved, [1]], 10 ** 121, [0, 1], True)
            self.check([[0, 1], moved, [10 ** 122]], 10 ** 121, [0, 1], False)
            self.check([[0, 1], [10 ** 130] + parts[1:], moved], 10 ** 121, [0, 1], False)
        # Both sums are small at two places, and within the limit at one of them alone.
        for other in (far, -far):
            self.check([[0, 1], [-(far * (far - 1) // 2), 0, 1], [-other, 1]], 10 ** 60 if other < 0 else 10 ** 121, [0], other > 0)

    def test_wide_ranges(self):
        self.check([[0, 1], [0, 0, 1]], 10 ** 40, [10 ** 90], True)
        self.check([[10 ** 90, 1], [-10 ** 90, -1]], 10 ** 40, [0], True)
        self.check([[0, 0, 1], [3, 0, 0, 1]], 50, [999], True)
        self.check([[100, 0, 1]], 50, [999, 0], False)
        self.check([[70], [70, 0]], 50, [999, 0], False)


def slow_reduced(vectors, width):
    """The reduced rows by steps of two rows at a time."""
    rows, left = [], [list(vector) for vector in vectors]
    for at in range(width):
        while sum(row[at] != 0 for row in left) > 1:
            left.sort(key=lambda row: (row[at] == 0, abs(row[at])))
            for row in left[1:]:
                many = row[at] // left[0][at]
                row[:] = [x - many * y for x, y in zip(row, left[0])]
        first = [row for row in left if row[at] != 0]
        if first:
            left = [row for row in left if row is not first[0]]
            rows.append(first[0] if first[0][at] > 0 else [-number for number in first[0]])
            for row in rows[:-1]:
                many = row[at] // rows[-1][at]
                row[:] = [x - many * y for x, y in zip(row, rows[-1])]
    return rows


class Rows(unittest.TestCase):
    def some_rows(self, source):
        width = source.randrange(1, 5)
        most = source.choice((2, 9, 500))
        rows = [[source.randint(-most, most) for _ in range(width)] for _ in range(source.randrange(6))]
        if source.random() < 0.4:
            many = source.choice((2, 4, 9, 12, 64, 10 ** 30 + 57))
            rows = [[many * number for number in row] for row in rows]
        return width, rows, [source.randint(-most, most) for _ in range(width)]

    def test_reduced(self):
        source = random.Random(3)
        for _ in range(300):
            width, rows, row = self.some_rows(source)
            found = reduced_rows(rows, width)
            self.assertEqual(found, slow_reduced(rows, width))
            for one in rows + found:
                self.assertEqual(left_over(found, one, width), [0] * width)

    def test_carried(self):
        source = random.Random(4)
        for _ in range(100):
            width, rows, row = self.some_rows(source)
            marked = [rows[k] + [int(k == at) for at in range(len(rows))] for k in range(len(rows))]
            for told in reduced_rows(marked, width):
                made = [sum(many * one[at] for many, one in zip(told[width:], rows)) for at in range(width)]
                self.assertEqual(told[:width], made)

    def test_parted(self):
        source = random.Random(5)
        some = 0
        for _ in range(300):
            width, vectors, row = self.some_rows(source)
            rows = reduced_rows(vectors, width)
            rest = left_over(rows, row, width)
            if any(rest):
                some += 1
                numbers, modulus = parted(rows, rest, [6, 0, 35])
                self.assertTrue(len(numbers) == width and modulus >= 2 and all(0 <= x < modulus for x in numbers))
                for vector in vectors:
                    self.assertEqual(sum(x * y for x, y in zip(numbers, vector)) % modulus, 0)
                self.assertNotEqual(sum(x * y for x, y in zip(numbers, row)) % modulus, 0)
        self.assertGreater(some, 150)

    def test_the_least_modulus(self):
        for rows, row, hints, modulus in (
            ([[6]], [1], [], 2), ([[6]], [2], [], 3), ([[8]], [4], [], 8), ([[8]], [2], [], 4), ([], [12], [], 5),
            ([], [2 * 3 * 4 * 5 * 7 * 11], [], 9), ([[1, 0]], [0, 24], [], 5), ([[211]], [1], [], 211),
            ([[211 * 223]], [1], [], 211 * 223), ([[211 * 223]], [1], [223 * 5], 223), ([[211 * 223]], [211], [], 223),
            ([[2 ** 600]], [2 ** 599], [], 2 ** 600), ([[2 ** 600]], [2 ** 299], [], 2 ** 300),
            ([[2 ** 600, 0], [0, 3 ** 300]], [2 ** 599, 3 ** 299], [], 3 ** 300), ([[2, 1], [0, 6]], [1, 0], [], 2), ([[2, 1], [0, 6]], [0, 2], [], 3),
            ([[10 ** 50]], [10 ** 50 // 5], [], 5 ** 50), ([[211 ** 7]], [211 ** 3], [], 211 ** 4),
        ):
            self.assertEqual(parted(rows, row, hints)[1], modulus, (rows, row))


if __name__ == "__main__":
    unittest.main()
