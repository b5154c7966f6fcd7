"""The queue of callwalk/queues.py: from the lowest price up, whatever is added on the way."""

import random
import unittest

from callwalk.queues import Queue


class Queues(unittest.TestCase):
    def emptied(self, queue):
        taken = []
        while not queue.is_empty():
            taken.append(sorted(queue.take_lowest()))
        return taken

    def test_an_empty_one(self):
        self.assertIs(Queue().is_empty(), True)

    def test_all_of_one_price_come_at_once(self):
        queue = Queue()
        for price, thing in ((3, "a"), (0, "b"), (3, "c"), (7, "d"), (0, "e")):
            queue.add(price, thing)
        self.assertEqual(self.emptied(queue), [[(0, "b"), (0, "e")], [(3, "a"), (3, "c")], [(7, "d")]])
        self.assertIs(queue.is_empty(), True)

    def test_what_is_added_behind_the_last_price(self):
        queue = Queue()
        queue.add(5, "a")
        queue.add(9, "b")
        self.assertEqual(queue.take_lowest(), [(5, "a")])
        queue.add(6, "c")
        queue.add(5, "d")
        self.assertEqual(self.emptied(queue), [[(5, "d")], [(6, "c")], [(9, "b")]])

    def test_prices_by_chance_against_sorting(self):
        for most in (2, 20, 10 ** 40):
            chance = random.Random(most)
            queue, here = Queue(), {}
            for thing in range(500):
                lowest = queue.last
                price = lowest + chance.randrange(most)
                queue.add(price, thing)
                here[thing] = price
                if thing % 3 == 0:
                    expected = min(here.values())
                    given = sorted(queue.take_lowest())
                    self.assertEqual(given, [(expected, one) for one in sorted(here) if here[one] == expected])
                    for price, one in given:
                        del here[one]
            taken = self.emptied(queue)
            self.assertEqual([entry for batch in taken for entry in batch],
                             sorted((price, thing) for thing, price in here.items()))


if __name__ == "__main__":
    unittest.main()
