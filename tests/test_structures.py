"""Point 15: the ready-made structures against plain computations."""

import random
import unittest
from itertools import combinations

from oncebuilt.structures import Span, Unions, count_below, least_at, lines_block, sorted_block
from tests.plain import components, connected, count_less, least_value, spanned

GREAT = 10 ** 30 - 1


class SortedBlocks(unittest.TestCase):
    def check(self, integers, bounds):
        kept = list(integers)
        block = sorted_block(integers)
        self.assertEqual(integers, kept)
        for bound in bounds:
            found = count_below(block, bound)
            self.assertEqual(found, count_less(kept, bound), (kept, bound))
            self.assertIs(type(found), int)

    def test_the_example(self):
        self.assertEqual(count_below(sorted_block([7, 2, 2, 5]), 5), 2)

    def test_the_empty_list(self):
        self.check([], [-1, 0, 1, GREAT, -GREAT])

    def test_values_at_and_beside_each_bound(self):
        for seed in range(60):
            source = random.Random(seed)
            integers = [source.randint(-20, 20) for _ in range(seed)]
            self.check(integers, range(-25, 26))

    def test_equal_integers(self):
        for many in range(1, 20):
            self.check([5] * many, range(3, 8))
            self.check([5] * many + [6] * many, range(3, 9))

    def test_great_integers(self):
        integers = [GREAT, -GREAT, GREAT - 1, 0, 10 ** 20, -10 ** 20, GREAT]
        self.check(integers, [one + more for one in integers for more in (-1, 0, 1)])

    def test_long_lists(self):
        source = random.Random(1)
        integers = [source.randint(-10 ** 6, 10 ** 6) for _ in range(5000)]
        self.check(integers, integers[:50] + [integers[0] + 1, integers[0] - 1, 10 ** 7, -10 ** 7])

    def test_later_changes_to_the_list_have_no_effect(self):
        for change in (list.clear, list.reverse, lambda integers: integers.append(-9),
                       lambda integers: integers.__setitem__(0, 99)):
            integers = [3, 1, 2]
            block = sorted_block(integers)
            change(integers)
            self.assertEqual([count_below(block, bound) for bound in range(5)], [0, 0, 1, 2, 3])

    def test_blocks_are_apart(self):
        integers = [1]
        one = sorted_block(integers)
        integers.append(2)
        other = sorted_block(integers)
        self.assertEqual((count_below(one, 9), count_below(other, 9)), (1, 2))

    def test_by_name(self):
        self.assertEqual(count_below(bound=2, block=sorted_block(integers=[1, 2])), 1)


class LineBlocks(unittest.TestCase):
    def check(self, lines, xs):
        kept = list(lines)
        block = lines_block(lines)
        self.assertEqual(lines, kept)
        for x in xs:
            self.assertEqual(least_at(block, x), least_value(kept, x), (kept, x))

    def test_the_example(self):
        self.assertEqual(least_at(lines_block([(0, 4), (1, 0), (-1, 9)]), 3), 3)

    def test_one_line(self):
        for line in [(0, 0), (2, -3), (-5, 1), (GREAT, -GREAT)]:
            self.check([line], [-GREAT, -2, -1, 0, 1, 2, GREAT])

    def test_random_lines(self):
        for seed in range(150):
            source = random.Random(seed)
            widest = source.choice([1, 3, 10, 50])
            lines = [(source.randint(-widest, widest), source.randint(-9 * widest, 9 * widest))
                     for _ in range(1 + seed % 25)]
            self.check(lines, range(-30, 31))

    def test_all_sets_of_small_lines(self):
        lines = [(a, b) for a in (-1, 0, 1, 2) for b in (-1, 0, 1)]
        for many in (1, 2, 3, 4):
            for some in combinations(lines, many):
                self.check(list(some), range(-4, 5))

    def test_lines_that_meet_in_one_point(self):
        for x in (-3, 0, 2):
            lines = [(a, 7 - a * x) for a in range(-4, 5)]
            for _ in range(5):
                random.Random(x).shuffle(lines)
                self.check(lines, range(x - 5, x + 6))

    def test_lines_that_touch_a_curve(self):
        # Each of these lines is the lowest one between two points, at which it meets its neighbours.
        lines = [(-2 * at, at * at) for at in range(-20, 21)]
        self.check([(a, -b) for a, b in lines], range(-45, 46))
        self.check(lines, range(-45, 46))
        random.Random(2).shuffle(lines)
        self.check([(a, -b) for a, b in lines], range(-45, 46))

    def test_parallel_and_equal_lines(self):
        self.check([(1, 5), (1, 3), (1, 4), (1, 3)], range(-3, 4))
        self.check([(0, 0)] * 5, range(-3, 4))
        self.check([(2, 1), (-2, 1), (2, 0), (-2, 0), (0, -1), (0, -1)], range(-5, 6))

    def test_values_beside_each_meeting_point(self):
        for a, b, c, d in [(3, 0, 1, 5), (7, -1, -6, 12), (10 ** 29, 5, -10 ** 29, -8), (1, 10 ** 29, 0, 0)]:
            # They meet between two integers, or at one of them.
            meeting = (d - b) // (a - c)
            self.check([(a, b), (c, d)], range(meeting - 3, meeting + 4))

    def test_great_integers(self):
        source = random.Random(3)
        for _ in range(40):
            lines = [(source.randint(-GREAT, GREAT), source.randint(-GREAT, GREAT)) for _ in range(12)]
            self.check(lines, [-GREAT, -1, 0, 1, GREAT, *[source.randint(-9, 9) for _ in range(5)]])
            # These differ by so little that a quotient of floats would not tell them apart.
            close = [(10 ** 29 + at, -at * at * 10 ** 5 - source.randint(0, 3)) for at in range(12)]
            self.check(close, range(-5, 25))
            self.check(close, [10 ** 5 * at + more for at in range(-2, 26) for more in (-1, 0, 1)])

    def test_long_lists(self):
        source = random.Random(4)
        lines = [(source.randint(-1000, 1000), source.randint(-10 ** 6, 10 ** 6)) for _ in range(1000)]
        self.check(lines, [*range(-2000, 2001, 100), 10 ** 9, -10 ** 9])

    def test_later_changes_to_the_list_have_no_effect(self):
        for change in (list.clear, list.reverse, lambda lines: lines.append((0, -99)),
                       lambda lines: lines.__setitem__(0, (0, -99))):
            lines = [(0, 4), (1, 0), (-1, 9)]
            block = lines_block(lines)
            change(lines)
            self.assertEqual([least_at(block, x) for x in (-2, 3, 9)], [-2, 3, 0])

    def test_an_empty_list_may_be_built(self):
        # What is least of no lines is not told, so nothing is asked.
        lines = []
        lines_block(lines)
        self.assertEqual(lines, [])

    def test_by_name(self):
        self.assertEqual(least_at(x=2, block=lines_block(lines=[(3, 1)])), 7)


class ConnectedPoints(unittest.TestCase):
    def check(self, unions, many, pairs, questions):
        for question in questions:
            found, expected = unions.ask(question), connected(many, pairs, question)
            self.assertEqual(found, expected, (pairs, question))
            self.assertIs(type(found), type(expected))

    def every_question(self, many):
        found = [("groups",)]
        for a in range(many):
            found.append(("size", a))
            found.extend(("same", a, b) for b in range(many))
        return found

    def test_without_pairs(self):
        for many in (1, 2, 5):
            self.check(Unions(many), many, [], self.every_question(many))

    def test_one_point(self):
        unions = Unions(1)
        for _ in range(3):
            unions.push((0, 0))
        self.assertEqual((unions.ask(("groups",)), unions.ask(("size", 0)), unions.ask(("same", 0, 0))), (1, 1, True))

    def test_pushes_and_pops_in_any_number(self):
        for seed in range(60):
            source = random.Random(seed)
            many, pairs = source.choice([1, 2, 3, 6, 10]), []
            unions = Unions(many)
            for _ in range(60):
                for _ in range(source.randint(0, 4)):
                    if pairs and source.random() < 0.45:
                        unions.pop()
                        pairs.pop()
                    else:
                        pairs.append((source.randrange(many), source.randrange(many)))
                        unions.push(pairs[-1])
                self.check(unions, many, pairs, self.every_question(many))

    def test_equal_and_connected_points(self):
        unions, pairs = Unions(4), []
        for pair in [(0, 0), (0, 1), (0, 1), (1, 0), (1, 1), (1, 2), (2, 0), (3, 3), (3, 0), (2, 3)]:
            unions.push(pair)
            pairs.append(pair)
            self.check(unions, 4, pairs, self.every_question(4))
        while pairs:
            unions.pop()
            pairs.pop()
            self.check(unions, 4, pairs, self.every_question(4))

    def test_all_points_are_apart_again(self):
        unions = Unions(6)
        for _ in range(3):
            for point in range(5):
                unions.push((point, point + 1))
            self.assertEqual((unions.ask(("groups",)), unions.ask(("size", 3))), (1, 6))
            for _ in range(5):
                unions.pop()
            self.assertEqual((unions.ask(("groups",)), unions.ask(("size", 3))), (6, 1))
            self.assertIs(unions.ask(("same", 0, 1)), False)

    def chains(self, many):
        """Pairs that connect all points: along a line, backwards, to one point, and at random."""
        source = random.Random(many)
        line = [(point, point + 1) for point in range(many - 1)]
        return [line, line[::-1], [(b, a) for a, b in line], [(0, point) for point in range(1, many)],
                [(point, many - 1) for point in range(many - 1)],
                [(source.randrange(point), point) for point in range(1, many)]]

    def test_components_of_thousands_of_points(self):
        many = 6000
        for pairs in self.chains(many):
            unions = Unions(many)
            for pair in pairs:
                unions.push(pair)
            self.assertEqual((unions.ask(("groups",)), unions.ask(("size", many // 2))), (1, many))
            self.assertTrue(all(unions.ask(("same", 0, point)) for point in range(many)))
            for _ in range(many // 2):
                unions.pop()
            found = components(many, pairs[:len(pairs) - many // 2])
            self.assertEqual(unions.ask(("groups",)), len({id(component) for component in found}))
            for point in range(0, many, 37):
                self.assertEqual(unions.ask(("size", point)), len(found[point]))
                self.assertIs(unions.ask(("same", point, 1)), found[point] is found[1])

    def test_halves_that_are_connected_again_and_again(self):
        many, unions = 4096, Unions(4096)
        step = 1
        while step < many:
            for point in range(0, many, 2 * step):
                unions.push((point + step - 1, point + step))
            step *= 2
            self.assertEqual((unions.ask(("groups",)), unions.ask(("size", 5))), (many // step, step))
        while step > 1:
            step //= 2
            for point in range(0, many, 2 * step):
                unions.pop()
            self.assertEqual((unions.ask(("groups",)), unions.ask(("size", 5))), (many // step, step))

    def test_very_many_points(self):
        unions = Unions(GREAT)
        unions.push((0, GREAT - 1))
        unions.push((GREAT - 1, 10 ** 20))
        self.assertEqual((unions.ask(("groups",)), unions.ask(("size", 10 ** 20))), (GREAT - 2, 3))
        self.assertIs(unions.ask(("same", 0, 10 ** 20)), True)
        unions.pop()
        self.assertIs(unions.ask(("same", 0, 10 ** 20)), False)

    def test_structures_are_apart(self):
        one, other = Unions(3), Unions(3)
        one.push((0, 1))
        self.assertIs(other.ask(("same", 0, 1)), False)
        self.assertEqual(other.ask(("groups",)), 3)

    def test_by_name(self):
        unions = Unions(many=3)
        unions.push(pair=(0, 2))
        self.assertIs(unions.ask(question=("same", 2, 0)), True)


class Spans(unittest.TestCase):
    def check(self, span, integers, questions):
        for question in questions:
            found, expected = span.ask(question), spanned(integers, question)
            self.assertEqual(found, expected, (integers, question))
            self.assertIs(type(found), type(expected))

    def test_without_integers(self):
        self.check(Span(), [], [("rank",), ("holds", 0), ("holds", 1), ("holds", GREAT)])

    def test_zero(self):
        span, integers = Span(), []
        for integer in (0, 0, 5, 0):
            span.push(integer)
            integers.append(integer)
            self.check(span, integers, [("rank",), ("holds", 0), ("holds", 5), ("holds", 1)])
        for _ in range(4):
            span.pop()
            integers.pop()
            self.check(span, integers, [("rank",), ("holds", 0), ("holds", 5), ("holds", 1)])

    def test_pushes_and_pops_in_any_number(self):
        for seed in range(60):
            source = random.Random(seed)
            span, integers, greatest = Span(), [], source.choice([1, 3, 15, 63])
            questions = [("rank",)] + [("holds", integer) for integer in range(greatest + 5)]
            for _ in range(60):
                for _ in range(source.randint(0, 4)):
                    if integers and source.random() < 0.45:
                        span.pop()
                        integers.pop()
                    else:
                        integers.append(source.randint(0, greatest))
                        span.push(integers[-1])
                self.check(span, integers, questions)

    def test_great_integers(self):
        for seed in range(20):
            source = random.Random(seed)
            span, integers = Span(), []
            for _ in range(12):
                if integers and source.random() < 0.3:
                    span.pop()
                    integers.pop()
                elif integers and source.random() < 0.3:
                    integers.append(source.choice(integers) ^ source.choice(integers))
                    span.push(integers[-1])
                else:
                    integers.append(source.randint(0, GREAT))
                    span.push(integers[-1])
                asked = [0, 1, GREAT, *integers, source.randint(0, GREAT)]
                asked += [one ^ other for one in integers for other in integers]
                asked += [one ^ 1 for one in integers]
                self.check(span, integers, [("rank",), *[("holds", integer) for integer in asked]])

    def test_powers_of_two(self):
        span = Span()
        for at in range(99):
            self.assertIs(span.ask(("holds", 1 << at)), False)
            span.push(1 << at)
            self.assertEqual(span.ask(("rank",)), at + 1)
            self.assertIs(span.ask(("holds", (2 << at) - 1)), True)
            self.assertIs(span.ask(("holds", 2 << at)), False)
        for at in reversed(range(99)):
            span.pop()
            self.assertEqual(span.ask(("rank",)), at)
            self.assertIs(span.ask(("holds", 1 << at)), False)

    def test_equal_integers(self):
        span = Span()
        for _ in range(5):
            span.push(12)
            self.assertEqual((span.ask(("rank",)), span.ask(("holds", 12))), (1, True))
        for _ in range(4):
            span.pop()
            self.assertEqual((span.ask(("rank",)), span.ask(("holds", 12))), (1, True))
        span.pop()
        self.assertEqual((span.ask(("rank",)), span.ask(("holds", 12))), (0, False))

    def test_thousands_of_integers(self):
        source, span = random.Random(6), Span()
        for _ in range(3000):
            span.push(source.randint(0, 2 ** 20 - 1))
        self.assertEqual(span.ask(("rank",)), 20)
        for _ in range(3000):
            span.pop()
        self.assertEqual((span.ask(("rank",)), span.ask(("holds", 0)), span.ask(("holds", 1))), (0, True, False))

    def test_no_negative_integer_is_a_sum(self):
        span = Span()
        for integer in (1, 6, 5):
            span.push(integer)
            for asked in (-1, -5, -6, -7, -GREAT):
                self.assertIs(span.ask(("holds", asked)), False)

    def test_structures_are_apart(self):
        one, other = Span(), Span()
        one.push(3)
        self.assertEqual(other.ask(("rank",)), 0)

    def test_by_name(self):
        span = Span()
        span.push(integer=6)
        self.assertIs(span.ask(question=("holds", 6)), True)


if __name__ == "__main__":
    unittest.main()
