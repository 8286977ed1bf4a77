"""orders and order: in how many orders all batches can be ended, and the k-th of these."""

import itertools
import unittest

from tests.calls import FAR, MOST, ORDERS, SAFE, TOLD
from tests.calls import ask, batch, begin, check, end, give, last, order, run
from safegrants.works import answers

ONLY_ONE = [begin(10), batch(1, [8]), batch(2, [10]), batch(3, [5]), give(1, 4), give(2, 1), give(3, 2)]
UNSAFE = [begin(2), batch(1, [2]), batch(2, [2]), give(1, 1), give(2, 1)]
TEN = [begin(1)] + [batch(number, [1]) for number in range(1, 11)]
ALL_OF_TEN = 3628800


class Orders(unittest.TestCase):
    def test_without_batches(self):
        self.assertEqual(run(ORDERS, begin(2), ORDERS), [[1], [0], [1]])

    def test_batches_of_no_kinds(self):
        self.assertEqual(run(batch(4, []), batch(3, []), ORDERS, order(0), order(1), order(2))[2:],
                         [[2], [4, 3], [3, 4], [-10]])

    def test_every_order(self):
        for size, wanted in ((1, 1), (2, 2), (3, 6), (4, 24), (10, ALL_OF_TEN)):
            self.assertEqual(last(*TEN[:size + 1], ORDERS), [wanted])

    def test_only_one(self):
        self.assertEqual(last(*ONLY_ONE, ORDERS), [1])

    def test_none(self):
        self.assertEqual(run(*UNSAFE, ORDERS, end(1), ORDERS)[5:], [[0], [0, 0], [1]])

    def test_none_though_some_can_end(self):
        common = [begin(5), batch(8, [5]), batch(2, [1]), batch(4, [5]), give(4, 2), give(8, 2), give(2, 1)]
        self.assertEqual(run(*common, ORDERS, order(0))[7:], [[0], [-10]])

    def test_some(self):
        # The first can only end behind both others.
        common = [begin(3), batch(1, [3]), batch(2, [1]), batch(3, [1]), give(2, 1), give(3, 1)]
        self.assertEqual(run(*common, ORDERS, order(0), order(1), order(2))[6:], [[2], [2, 3, 1], [3, 2, 1], [-10]])

    def test_an_alternative_opens_more(self):
        common = [begin(3), batch(1, [3], [1]), batch(2, [1]), batch(3, [1]), give(2, 1), give(3, 1)]
        self.assertEqual(last(*common, ORDERS), [6])
        # Several alternatives that can be met are no more orders.
        self.assertEqual(last(begin(2), batch(1, [1], [2], [1], [0]), ORDERS), [1])

    def test_an_outgrown_alternative_opens_none(self):
        common = [begin(2, 2), batch(1, [0, 1], [2, 0]), batch(2, [1, 0]), give(1, 1, 0), give(2, 1, 0)]
        self.assertEqual(run(*common, ORDERS, order(0))[5:], [[1], [2, 1]])

    def test_requests_do_not_count(self):
        common = [begin(2), batch(1, [2]), batch(2, [2]), ask(1, 1), ask(2, 1)]
        self.assertEqual(run(*common, ORDERS, order(0))[4:], [[0], [1], [1, 2]])

    def test_changes_nothing(self):
        found = run(*ONLY_ONE, TOLD, ORDERS, order(0), order(1), order(-1), ORDERS, TOLD)[7:]
        self.assertEqual(found[1:6], [[1], [3, 1, 2], [-10], [-1], [1]])
        self.assertEqual(found[6], found[0])


class Order(unittest.TestCase):
    def test_without_batches(self):
        self.assertEqual(run(order(0), order(1), begin(2), order(0), order(1)), [[], [-10], [0], [], [-10]])
        self.assertEqual(answers(order(0)), [0])

    def test_no_count_stands_in_front(self):
        self.assertEqual(answers([0, 0, 1, 1, 2, 1, 1, 6, 1, 1, 2, 17, 1, 0, 0]), [1, 0, 1, 0, 1, 6])

    def test_the_one_that_came_earlier_goes_first(self):
        common = [begin(1), batch(9, [1]), batch(3, [1]), batch(5, [0])]
        found = run(*common, *[order(k) for k in range(7)])[4:]
        self.assertEqual(found, [[9, 3, 5], [9, 5, 3], [3, 9, 5], [3, 5, 9], [5, 9, 3], [5, 3, 9], [-10]])

    def test_one_that_came_again_goes_last(self):
        common = [begin(1), batch(9, [1]), batch(3, [1]), end(9), batch(9, [1])]
        self.assertEqual(run(*common, order(0), order(1))[5:], [[3, 9], [9, 3]])

    def test_only_one(self):
        self.assertEqual(run(*ONLY_ONE, order(0), order(1))[7:], [[3, 1, 2], [-10]])

    def test_the_first_is_the_one_that_safe_tells(self):
        for common in (ONLY_ONE, TEN, TEN[:4]):
            found = run(*common, SAFE, order(0))
            self.assertEqual(found[-1], found[-2][2:])

    def test_of_ten(self):
        for k, wanted in (
            (0, [1, 2, 3, 4, 5, 6, 7, 8, 9, 10]),
            (1, [1, 2, 3, 4, 5, 6, 7, 8, 10, 9]),
            (362879, [1, 10, 9, 8, 7, 6, 5, 4, 3, 2]),
            (362880, [2, 1, 3, 4, 5, 6, 7, 8, 9, 10]),
            (999999, [3, 8, 9, 4, 10, 2, 6, 5, 7, 1]),
            (ALL_OF_TEN - 1, [10, 9, 8, 7, 6, 5, 4, 3, 2, 1]),
            (ALL_OF_TEN, [-10]),
            (ALL_OF_TEN + 1, [-10]),
        ):
            self.assertEqual(last(*TEN, order(k)), wanted)

    def test_range(self):
        for k, answer in ((-1, -1), (-FAR, -1), (MOST, -10), (MOST + 1, -1), (FAR, -1)):
            self.assertEqual(last(*TEN[:3], order(k)), [answer])
            self.assertEqual(last(order(k)), [answer])

    def test_unsafe(self):
        self.assertEqual(run(*UNSAFE, order(0), order(MOST), order(MOST + 1))[5:], [[-10], [-10], [-1]])

    def written_out(self, common, numbers):
        """All orders in which these can be ended, tried one by one in the order in which the batches came."""
        tried = list(itertools.permutations(numbers))
        found = []
        for start in range(0, len(tried), 100):
            part = tried[start:start + 100]
            told = run(*common, *[check(*one) for one in part])[len(common):]
            found += [list(one) for one, answer in zip(part, told) if answer[0] == 0]
        return found

    def test_against_all_orders_written_out(self):
        chain = [begin(6), *[batch(number, [claim]) for number, claim in ((8, 6), (3, 4), (6, 3), (1, 5), (4, 2))]]
        chain += [give(8, 1), give(3, 1), give(6, 1), give(4, 1)]
        kinds = [begin(3, 3), batch(5, [3, 0], [1, 2]), batch(2, [2, 2]), batch(7, [0, 3], [1, 1]), batch(1, [3, 3])]
        kinds += [give(5, 1, 0), give(2, 1, 1), give(7, 0, 1)]
        for common, numbers in ((chain, [8, 3, 6, 1, 4]), (kinds, [5, 2, 7, 1]), (TEN[:6], [1, 2, 3, 4, 5])):
            wanted = self.written_out(common, numbers)
            self.assertGreater(len(wanted), 1)
            self.assertEqual(last(*common, ORDERS), [len(wanted)])
            found = run(*common, *[order(k) for k in range(len(wanted) + 1)])[len(common):]
            self.assertEqual(found, wanted + [[-10]])


if __name__ == "__main__":
    unittest.main()
