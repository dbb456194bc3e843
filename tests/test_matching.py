"""Promise 63: the best matching and its prices."""

import itertools
import random
import time
import unittest

from windowrows.matching import Matching, best_matching


def best_total(weights):
    """Return the greatest sum by trying all arrangements."""
    count = len(weights)
    return max(
        sum(weights[member][place] for member, place in enumerate(places))
        for places in itertools.permutations(range(count))
    )


class Checks(unittest.TestCase):
    def check(self, weights):
        handed = [list(row) for row in weights]
        found = best_matching(weights)
        self.assertEqual(weights, handed)
        self.assertIsInstance(found, Matching)
        count = len(weights)
        for told in (found.places, found.member_prices, found.place_prices):
            self.assertIs(type(told), list)
            self.assertTrue(all(type(number) is int for number in told))
            self.assertEqual(len(told), count)
        self.assertEqual(sorted(found.places), list(range(count)))
        self.assertIs(type(found.total), int)
        self.assertEqual(found.total, sum(weights[member][found.places[member]] for member in range(count)))
        for member, place in itertools.product(range(count), repeat=2):
            self.assertGreaterEqual(found.member_prices[member] + found.place_prices[place], weights[member][place])
        self.assertEqual(sum(found.member_prices) + sum(found.place_prices), found.total)
        return found


class Small(Checks):
    def test_no_members(self):
        found = self.check([])
        self.assertEqual((found.places, found.total, found.member_prices, found.place_prices), ([], 0, [], []))

    def test_one_member(self):
        for weight in [0, 5, -5, 10 ** 30]:
            found = self.check([[weight]])
            self.assertEqual((found.places, found.total), ([0], weight))

    def test_two_members(self):
        for one, two, three, four in itertools.product(range(-2, 3), repeat=4):
            found = self.check([[one, two], [three, four]])
            self.assertEqual(found.total, max(one + four, two + three))

    def test_written_out(self):
        found = self.check([[7, 4, 3], [6, 5, 1], [8, 8, 2]])
        self.assertEqual((found.places, found.total), ([2, 0, 1], 17))
        found = self.check([[0, 1, 0], [0, 0, 1], [1, 0, 0]])
        self.assertEqual((found.places, found.total), ([1, 2, 0], 3))
        found = self.check([[-1, -9, -9], [-9, -9, -1], [-9, -1, -9]])
        self.assertEqual((found.places, found.total), ([0, 2, 1], -3))
        found = self.check([[10, 9, 0], [10, 0, 0], [9, 8, 7]])
        self.assertEqual((found.places, found.total), ([1, 0, 2], 26))

    def test_equal_weights(self):
        for count in range(6):
            for weight in [0, 3, -3]:
                self.assertEqual(self.check([[weight] * count for _ in range(count)]).total, weight * count)

    def test_all_arrangements(self):
        dice = random.Random(63)
        for count in range(1, 6):
            for _ in range(60):
                most = dice.choice([1, 2, 9, 10 ** 20])
                weights = [[dice.randint(-most, most) for _ in range(count)] for _ in range(count)]
                self.assertEqual(self.check(weights).total, best_total(weights))
            for _ in range(20):
                most = dice.choice([1, 5])
                weights = [[-dice.randint(0, most) for _ in range(count)] for _ in range(count)]
                self.assertEqual(self.check(weights).total, best_total(weights))


class Twelve(Checks):
    def test_twelve_members(self):
        dice = random.Random(12)
        begun = time.process_time()
        for most in [0, 1, 3, 50, 10 ** 6, 10 ** 40]:
            for _ in range(5):
                self.check([[dice.randint(-most, most) for _ in range(12)] for _ in range(12)])
        self.assertLess(time.process_time() - begun, 20)

    def test_a_hidden_arrangement(self):
        dice = random.Random(13)
        for count in [6, 9, 12, 14]:
            places = dice.sample(range(count), count)
            weights = [
                [10 * (member + place) + (1 if places[member] == place else 0) for place in range(count)]
                for member in range(count)
            ]
            found = self.check(weights)
            self.assertEqual(found.places, places)

    def test_products(self):
        # The greatest sum of products has the great places for the great members.
        weights = [[member * place for place in range(12)] for member in range(12)]
        self.assertEqual(self.check(weights).places, list(range(12)))
        weights = [[-member * place for place in range(12)] for member in range(12)]
        self.assertEqual(self.check(weights).places, list(reversed(range(12))))


class Copies(Checks):
    def test_lists_that_are_changed_later(self):
        weights = [[5, 1, 0], [4, 4, 4], [0, 7, 3]]
        found = best_matching(weights)
        kept = (list(found.places), found.total, list(found.member_prices), list(found.place_prices))
        weights[0][0] = -100
        weights[1].append(3)
        weights.append([9])
        self.assertEqual((found.places, found.total, found.member_prices, found.place_prices), kept)
        again = best_matching([[5, 1, 0], [4, 4, 4], [0, 7, 3]])
        found.places.reverse()
        found.member_prices[0] = None
        found.place_prices.clear()
        self.assertEqual((again.places, again.total, again.member_prices, again.place_prices), kept)
        later = best_matching([[5, 1, 0], [4, 4, 4], [0, 7, 3]])
        self.assertEqual((later.places, later.total, later.member_prices, later.place_prices), kept)
        self.assertTrue(later == again)


if __name__ == "__main__":
    unittest.main()
