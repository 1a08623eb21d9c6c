"""Breaks of maps, and lists of points, promises 10 and 11."""

import unittest
from fractions import Fraction
from random import Random

from halvewright.breaks import breaks_of, map_of_breaks
from halvewright.errors import NoBreaks
from halvewright.maps import power, then, trimmed
from halvewright.runner import steep
from samples import (
    PAIR, chains, corners, cut_at, cut_more, fraction, is_map, is_number, is_point, led, needless_places,
    small_maps, some_maps, told,
)

ONE = ((), ())
MOVE = ((PAIR, ()), ((), PAIR))
BEGIN = ((0, 0), (0, 0))
END = ((1, 0), (1, 0))


def maps_to_look_at():
    great = [(one, other) for one in chains(40) for other in chains(40)]
    return small_maps(4) + some_maps(91, 40) + some_maps(92, 10, 60) + great


def is_power_of_two(number):
    top, bottom = number.numerator, number.denominator
    return number > 0 and top & (top - 1) == 0 and bottom & (bottom - 1) == 0


def first_wrong(pairs):
    """The `at` of NoBreaks, or None where the list is let by, as promise 11 tells it."""
    numbers = [(fraction(x), fraction(y)) for x, y in pairs]
    for k, (x, y) in enumerate(numbers):
        if k == 0:
            if (x, y) != (0, 0):
                return 0
            continue
        wide, tall = x - numbers[k - 1][0], y - numbers[k - 1][1]
        if wide <= 0 or tall <= 0 or not is_power_of_two(tall / wide):
            return k
    if not numbers or numbers[-1] != (1, 1):
        return len(numbers)
    return None


def even_between(pairs, number):
    numbers = [(fraction(x), fraction(y)) for x, y in pairs]
    for (x, y), (v, w) in zip(numbers, numbers[1:]):
        if x <= number <= v:
            return y + (number - x) * (w - y) / (v - x)
    raise AssertionError(number)


class TestBreaksOf(unittest.TestCase):
    def test_both_ends_and_each_bend(self):
        for mapped in maps_to_look_at():
            found = breaks_of(mapped)
            self.assertIs(type(found), tuple)
            for pair in found:
                self.assertIs(type(pair), tuple)
                self.assertTrue(len(pair) == 2 and all(is_point(part) for part in pair))
            bends = [
                number for number in sorted(cut_at(mapped[0]))
                if len(set(steep(mapped, told(number)))) == 2
            ]
            wanted = [Fraction(0)] + bends + [Fraction(1)]
            self.assertEqual(found, tuple((told(x), told(led(mapped, x))) for x in wanted))

    def test_by_hand(self):
        self.assertEqual(breaks_of(ONE), (BEGIN, END))
        self.assertEqual(breaks_of(MOVE), (BEGIN, ((1, 2), (1, 1)), ((1, 1), (3, 2)), END))
        # Cut at half without a bend there.
        mapped = ((((), PAIR), ()), ((PAIR, ()), ()))
        self.assertEqual(
            breaks_of(mapped), (BEGIN, ((1, 2), (1, 3)), ((3, 3), (1, 2)), ((1, 1), (1, 1)), END)
        )

    def test_not_at_a_cut_without_bend(self):
        # Both sides of half are laid evenly, but need the cut in these trees.
        mapped = trimmed((((PAIR, ()), ((), PAIR)), (((), PAIR), (PAIR, ()))))
        self.assertIn(Fraction(1, 2), cut_at(mapped[0]))
        self.assertNotIn((1, 1), [x for x, y in breaks_of(mapped)])

    def test_of_maps_that_are_not_trimmed(self):
        chance = Random(93)
        for mapped in maps_to_look_at():
            self.assertEqual(breaks_of(mapped), breaks_of(trimmed(mapped)))
            self.assertEqual(breaks_of(cut_more(chance, mapped, 3)), breaks_of(trimmed(mapped)))
        self.assertEqual(breaks_of((PAIR, PAIR)), (BEGIN, END))


class TestMapOfBreaks(unittest.TestCase):
    def check(self, pairs):
        mapped = map_of_breaks(pairs)
        self.assertTrue(is_map(mapped))
        self.assertEqual(needless_places(mapped), [])
        for number in corners(mapped) + [fraction(x) for x, y in pairs]:
            self.assertEqual(led(mapped, number), even_between(pairs, number))

    def test_told_breaks_are_read_back(self):
        for mapped in maps_to_look_at():
            self.assertEqual(map_of_breaks(breaks_of(mapped)), trimmed(mapped))

    def test_told_breaks_of_greater_maps(self):
        for mapped in [power(MOVE, 98), power(MOVE, -98), then(power(MOVE, 30), some_maps(94, 1, 40)[0])]:
            self.assertEqual(map_of_breaks(breaks_of(mapped)), mapped)

    def test_pairs_without_a_bend_are_let_by(self):
        chance = Random(95)
        for mapped in small_maps(4) + some_maps(96, 30, 7):
            numbers = sorted({fraction(x) for x, y in breaks_of(mapped)} | {
                Fraction(chance.randint(0, 128), 128) for _ in range(4)
            })
            pairs = tuple((told(x), told(led(mapped, x))) for x in numbers)
            self.check(pairs)
            self.assertEqual(map_of_breaks(pairs), trimmed(mapped))

    def test_the_one_with_many_pairs(self):
        pairs = tuple((told(Fraction(k, 128)), told(Fraction(k, 128))) for k in range(129))
        self.assertEqual(map_of_breaks(pairs), ONE)

    def test_by_hand(self):
        self.assertEqual(map_of_breaks((BEGIN, END)), ONE)
        self.assertEqual(map_of_breaks((BEGIN, ((1, 1), (1, 1)), END)), ONE)
        self.assertEqual(map_of_breaks((BEGIN, ((1, 2), (1, 1)), ((1, 1), (3, 2)), END)), MOVE)

    def test_pieces_that_lie_across_cuts(self):
        # The middle is moved without being pulled, so its own halves don't come to lie on halves.
        self.check((BEGIN, ((1, 2), (1, 3)), ((5, 3), (1, 1)), ((3, 2), (3, 2)), END))
        # A short stretch is pulled to half the line, and begins beside all greater cuts.
        self.check((BEGIN, ((1, 7), (1, 7)), ((1, 6), (65, 7)), END))
        self.check((BEGIN, ((1, 7), (1, 7)), ((65, 7), (1, 6)), END))
        # From three quarters of an eighth on, laid from a quarter of one on.
        self.check((
            BEGIN, ((1, 5), (1, 2)), ((3, 5), (9, 5)), ((1, 1), (11, 4)), ((7, 3), (7, 3)), END,
        ))

    def test_lists_made_at_random(self):
        chance = Random(97)
        let_by = 0
        for _ in range(3000):
            pairs = random_list(chance)
            if first_wrong(pairs) is None:
                let_by += 1
                self.check(pairs)
        self.assertGreater(let_by, 30)


def random_list(chance):
    """A list of points of depth 7 at most, each piece but the last growing 2 ** e times."""
    x = y = Fraction(0)
    pairs = [(told(x), told(y))]
    while x < 1 and y < 1:
        deep = chance.randint(1, 4)
        wide = Fraction(chance.randint(1, 2 ** deep), 2 ** deep)
        tall = wide * Fraction(2) ** chance.randint(-2, 2)
        if chance.random() < 0.4:
            wide, tall = 1 - x, 1 - y
        x, y = min(x + wide, Fraction(1)), min(y + tall, Fraction(1))
        if max(x.denominator, y.denominator) > 128:
            break
        pairs.append((told(x), told(y)))
    return tuple(pairs)


class TestNoBreaks(unittest.TestCase):
    def refused(self, pairs):
        with self.assertRaises(NoBreaks) as caught:
            map_of_breaks(pairs)
        self.assertTrue(is_number(caught.exception.at))
        return caught.exception.at

    def check(self, pairs, at):
        self.assertEqual(self.refused(pairs), at)
        self.assertEqual(first_wrong(pairs), at)

    def test_no_pairs(self):
        self.check((), 0)

    def test_first_pair(self):
        self.check((END,), 0)
        self.check((((0, 0), (1, 1)), END), 0)
        self.check((((1, 1), (0, 0)), END), 0)
        self.check((((1, 1), (1, 1)), END), 0)

    def test_last_pair(self):
        self.check((BEGIN,), 1)
        self.check((BEGIN, ((1, 1), (1, 1))), 2)
        self.check((BEGIN, ((1, 1), (1, 0))), 2)
        self.check((BEGIN, ((1, 0), (1, 1))), 2)
        self.check((BEGIN, ((1, 2), (1, 1)), ((1, 1), (3, 2))), 3)

    def test_not_greater(self):
        half = ((1, 1), (1, 1))
        self.check((BEGIN, BEGIN, END), 1)
        self.check((BEGIN, half, half, END), 2)
        self.check((BEGIN, half, ((1, 1), (3, 2)), END), 2)
        self.check((BEGIN, half, ((3, 2), (1, 1)), END), 2)
        self.check((BEGIN, half, ((1, 2), (3, 2)), END), 2)
        self.check((BEGIN, half, ((3, 2), (1, 2)), END), 2)
        self.check((BEGIN, half, ((1, 2), (1, 2)), END), 2)
        self.check((BEGIN, ((0, 0), (1, 1)), END), 1)
        self.check((BEGIN, END, END), 2)
        self.check((BEGIN, END, half), 2)
        self.check((BEGIN, END, BEGIN), 2)

    def test_grows_by_no_power_of_two(self):
        self.check((BEGIN, ((1, 1), (3, 2)), END), 1)
        self.check((BEGIN, ((3, 2), (1, 1)), END), 1)
        self.check((BEGIN, ((1, 2), (1, 1)), END), 2)
        self.check((BEGIN, ((1, 2), (1, 1)), ((5, 3), (3, 2)), END), 2)
        self.check((BEGIN, ((1, 1), (1, 2)), END), 2)
        self.check((BEGIN, ((1, 7), (3, 7)), END), 1)

    def test_several_at_once(self):
        half = ((1, 1), (1, 1))
        self.check((half, half, half), 0)
        self.check((BEGIN, ((1, 1), (3, 2)), half, ((1, 2), (1, 2))), 1)
        self.check((BEGIN, half, half, ((3, 2), (7, 3))), 2)
        self.check((BEGIN, half, ((3, 2), (5, 3)), ((3, 2), (5, 3))), 3)
        self.check((END, BEGIN), 0)

    def test_refused_just_where_the_promise_says(self):
        chance = Random(98)
        points = [told(Fraction(k, 8)) for k in range(9)]
        for _ in range(4000):
            many = chance.randint(0, 5)
            xs = sorted(chance.sample(points, many), key=fraction)
            ys = sorted(chance.sample(points, many), key=fraction)
            if chance.random() < 0.3:
                chance.shuffle(ys)
            pairs = list(zip(xs, ys))
            if chance.random() < 0.8:
                pairs = [BEGIN] + pairs + [END]
            pairs = tuple(pairs)
            at = first_wrong(pairs)
            if at is None:
                self.assertTrue(is_map(map_of_breaks(pairs)))
            else:
                self.assertEqual(self.refused(pairs), at, pairs)

    def test_changed_lists(self):
        chance = Random(99)
        for mapped in some_maps(100, 30, 7):
            pairs = list(breaks_of(mapped))
            k = chance.randrange(len(pairs))
            n = chance.randint(0, 128)
            pairs[k] = (pairs[k][0], told(Fraction(n, 128)))
            at = first_wrong(pairs)
            if at is not None:
                self.assertEqual(self.refused(tuple(pairs)), at)


class TestSteadiness(unittest.TestCase):
    def test_same_answers_behind_others(self):
        found = some_maps(101, 30)
        first = [breaks_of(f) for f in found]
        maps = [map_of_breaks(pairs) for pairs in first]
        self.assertEqual([breaks_of(f) for f in reversed(found)], first[::-1])
        self.assertEqual([map_of_breaks(pairs) for pairs in reversed(first)], maps[::-1])

    def test_refused_leaves_nothing_behind(self):
        pairs = (BEGIN, ((1, 2), (1, 1)), ((1, 1), (3, 2)), END)
        for _ in range(2):
            with self.assertRaises(NoBreaks):
                map_of_breaks(pairs[:3])
            self.assertEqual(map_of_breaks(pairs), MOVE)
        self.assertEqual(pairs, (BEGIN, ((1, 2), (1, 1)), ((1, 1), (3, 2)), END))


if __name__ == "__main__":
    unittest.main()
