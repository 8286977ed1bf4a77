"""victims and cheapest: which batches must go for the state to be safe."""

import unittest

from tests.calls import FAR, MOST, SAFE, TOLD, VICTIMS
from tests.calls import ask, batch, begin, cheapest, end, give, last, run

PAIR = [begin(2), batch(1, [2]), batch(2, [2]), give(1, 1), give(2, 1)]

# Without 9 the small ones can end; without both small ones 9 can.
BIG = [begin(6), batch(9, [6]), batch(2, [5]), batch(1, [5]), give(9, 4), give(2, 1), give(1, 1)]


def ten(numbers):
    """Ten batches that each hold one of ten copies and may need all: nine must go."""
    return [begin(10)] + [batch(number, [10]) for number in numbers] + [give(number, 1) for number in numbers]


class Victims(unittest.TestCase):
    def test_none_in_a_safe_state(self):
        self.assertEqual(last(begin(2), VICTIMS), [0])
        self.assertEqual(last(begin(2), batch(1, [2]), batch(2, [2]), give(1, 1), VICTIMS), [0])

    def test_before_begin(self):
        self.assertEqual(run(VICTIMS, batch(4, []), VICTIMS), [[0], [0], [0]])

    def test_of_equally_many_the_first(self):
        self.assertEqual(last(*PAIR, VICTIMS), [1, 1])

    def test_first_by_number_not_by_coming(self):
        common = [begin(2), batch(9, [2]), batch(3, [2]), give(9, 1), give(3, 1)]
        self.assertEqual(last(*common, VICTIMS), [1, 3])
        common = [begin(2), batch(10, [2]), batch(9, [2]), give(9, 1), give(10, 1)]
        self.assertEqual(last(*common, VICTIMS), [1, 9])

    def test_one_that_is_not_stuck_does_not_help(self):
        common = [begin(5), batch(8, [5]), batch(2, [1]), batch(4, [5]), give(4, 2), give(8, 2), give(2, 1)]
        self.assertEqual(run(*common, SAFE, VICTIMS)[7:], [[0, 2, 8, 4], [1, 4]])

    def test_one_that_holds_nothing_does_not_help(self):
        common = [begin(2), batch(1, [2]), batch(5, [2]), batch(4, [2]), give(5, 1), give(4, 1)]
        self.assertEqual(run(*common, SAFE, VICTIMS)[6:], [[0, 3, 1, 5, 4], [1, 4]])

    def test_the_fewest_though_others_have_smaller_numbers(self):
        self.assertEqual(run(*BIG, SAFE, VICTIMS)[7:], [[0, 3, 9, 2, 1], [1, 9]])

    def test_two_rising(self):
        common = [begin(10), batch(3, [10]), batch(2, [10]), batch(1, [10]), give(3, 5), give(2, 1), give(1, 1)]
        self.assertEqual(last(*common, VICTIMS), [2, 1, 2])

    def test_not_the_first_two(self):
        # Two pairs over a kind each: one of each pair must go, and the first pair is 5 and 1.
        common = [begin(2, 2), batch(5, [2, 0]), batch(1, [2, 0]), batch(2, [0, 2]), batch(7, [0, 2])]
        common += [give(5, 1, 0), give(1, 1, 0), give(2, 0, 1), give(7, 0, 1)]
        self.assertEqual(last(*common, VICTIMS), [2, 1, 2])
        common = [begin(2, 2), batch(2, [2, 0]), batch(1, [2, 0]), batch(9, [0, 2]), batch(7, [0, 2])]
        common += [give(2, 1, 0), give(1, 1, 0), give(9, 0, 1), give(7, 0, 1)]
        self.assertEqual(last(*common, VICTIMS), [2, 1, 7])

    def test_nine_of_ten(self):
        self.assertEqual(last(*ten(range(1, 11)), VICTIMS), [9] + list(range(1, 10)))
        self.assertEqual(last(*ten(range(20, 10, -1)), VICTIMS), [9] + list(range(11, 20)))

    def test_without_them_it_is_safe(self):
        common = [begin(10), batch(3, [10]), batch(2, [10]), batch(1, [10]), give(3, 5), give(2, 1), give(1, 1)]
        self.assertEqual(run(*common, end(1), SAFE, end(2), SAFE)[7:], [[0, 0], [0, 2, 3, 2], [0, 0], [1, 1, 3]])

    def test_requests_do_not_count(self):
        common = [begin(2), batch(1, [2]), batch(2, [2]), ask(1, 1), ask(2, 1)]
        self.assertEqual(run(*common, VICTIMS)[4:], [[0], [0]])

    def test_alternatives_count(self):
        common = [begin(2, 1), batch(1, [2, 0]), batch(2, [2, 0], [1, 1]), batch(3, [0, 1])]
        common += [give(1, 1, 0), give(2, 1, 0)]
        self.assertEqual(last(*common, VICTIMS), [0])
        self.assertEqual(run(*common, give(3, 0, 1), VICTIMS)[6:], [[1], [0]])

    def test_changes_nothing(self):
        found = run(*BIG, TOLD, VICTIMS, VICTIMS, TOLD)[7:]
        self.assertEqual(found[1], found[2])
        self.assertEqual(found[0], found[3])


class Cheapest(unittest.TestCase):
    def test_none_in_a_safe_state(self):
        common = [begin(2), batch(1, [2]), batch(2, [2]), give(1, 1)]
        self.assertEqual(run(*common, cheapest(), cheapest(1, 0, 2, 5))[4:], [[0, 0], [0, 0]])

    def test_before_begin(self):
        self.assertEqual(run(cheapest(), cheapest(1, 1), cheapest(1)), [[0, 0], [-2], [-2]])
        self.assertEqual(run(batch(4, []), cheapest(), cheapest(4, 7))[1:], [[0, 0], [0, 0]])

    def test_the_cheaper(self):
        self.assertEqual(last(*PAIR, cheapest(1, 5, 2, 3)), [3, 1, 2])
        self.assertEqual(last(*PAIR, cheapest(2, 5, 1, 3)), [3, 1, 1])

    def test_one_that_is_not_named_costs_nothing(self):
        self.assertEqual(last(*PAIR, cheapest(1, 5)), [0, 1, 2])
        self.assertEqual(last(*PAIR, cheapest(2, 5)), [0, 1, 1])
        self.assertEqual(last(*PAIR, cheapest()), [0, 1, 1])

    def test_of_equally_cheap_and_many_the_first(self):
        self.assertEqual(last(*PAIR, cheapest(2, 3, 1, 3)), [3, 1, 1])
        self.assertEqual(last(*PAIR, cheapest(1, 0, 2, 0)), [0, 1, 1])
        common = [begin(2), batch(9, [2]), batch(3, [2]), give(9, 1), give(3, 1)]
        self.assertEqual(last(*common, cheapest(9, 4, 3, 4)), [4, 1, 3])

    def test_two_are_cheaper_than_one(self):
        self.assertEqual(last(*BIG, cheapest(9, 10, 1, 2, 2, 3)), [5, 2, 1, 2])
        self.assertEqual(last(*BIG, cheapest(9, 1)), [0, 2, 1, 2])

    def test_of_equally_cheap_the_fewest(self):
        self.assertEqual(last(*BIG, cheapest(9, 5, 1, 2, 2, 3)), [5, 1, 9])
        self.assertEqual(last(*BIG, cheapest(9, 6, 1, 2, 2, 3)), [5, 2, 1, 2])
        self.assertEqual(last(*BIG, cheapest()), [0, 1, 9])
        self.assertEqual(last(*BIG, cheapest(9, 0, 1, 0, 2, 0)), [0, 1, 9])

    def test_nothing_needless_though_it_costs_nothing(self):
        common = [begin(2, 2), batch(1, [2, 2]), batch(4, [2, 0]), batch(5, [2, 0]), give(4, 1, 0), give(5, 1, 0)]
        self.assertEqual(last(*common, cheapest(4, 7, 5, 6)), [6, 1, 5])

    def test_two_of_three(self):
        common = [begin(4), batch(1, [4]), batch(2, [4]), batch(3, [4]), give(1, 1), give(2, 1), give(3, 2)]
        self.assertEqual(last(*common, cheapest(1, 10, 2, 1, 3, 2)), [3, 2, 2, 3])
        self.assertEqual(last(*common, cheapest(3, 2, 2, 2, 1, 2)), [4, 2, 1, 2])
        self.assertEqual(last(*common, cheapest(2, 9)), [0, 2, 1, 3])

    def test_range_of_costs(self):
        self.assertEqual(last(*BIG, cheapest(9, MOST, 1, MOST, 2, MOST)), [MOST, 1, 9])
        self.assertEqual(last(*BIG, cheapest(9, MOST, 1, MOST, 2, 0)), [MOST, 1, 9])
        self.assertEqual(last(*BIG, cheapest(9, MOST, 1, MOST - 1, 2, 0)), [MOST - 1, 2, 1, 2])
        for wrong in (-1, MOST + 1, FAR, -FAR):
            self.assertEqual(last(*BIG, cheapest(9, wrong)), [-2])
            self.assertEqual(last(*BIG, cheapest(9, 1, 1, wrong)), [-2])

    def test_a_sum_beyond_the_range_of_one_cost(self):
        costs = [number for k in range(1, 11) for number in (k, MOST)]
        self.assertEqual(last(*ten(range(10, 0, -1)), cheapest(*costs)), [9 * MOST, 9] + list(range(1, 10)))
        costs[1] = 0
        costs[3] = MOST - 1
        self.assertEqual(last(*ten(range(1, 11)), cheapest(*costs)), [8 * MOST - 1, 9] + list(range(1, 10)))
        costs[-1] = 7
        self.assertEqual(last(*ten(range(1, 11)), cheapest(*costs)), [7 * MOST + 6, 9] + [1, 2, 3, 4, 5, 6, 7, 8, 10])

    def test_odd_length(self):
        for row in ([9], [9, 1, 1], [9, 1, 1, 1, 2]):
            self.assertEqual(last(*BIG, cheapest(*row)), [-2])

    def test_batches_that_are_not_there(self):
        for wrong in (3, 0, -1, MOST, MOST + 1, FAR, -FAR):
            self.assertEqual(last(*BIG, cheapest(wrong, 1)), [-2])
            self.assertEqual(last(*BIG, cheapest(9, 1, wrong, 1)), [-2])
        self.assertEqual(last(*BIG, end(1), cheapest(1, 1)), [-2])

    def test_named_twice(self):
        self.assertEqual(last(*BIG, cheapest(9, 1, 9, 1)), [-2])
        self.assertEqual(last(*BIG, cheapest(9, 1, 1, 1, 9, 2)), [-2])
        self.assertEqual(last(*BIG, cheapest(9, 1, 1, 9, 2, 9)), [1, 1, 9])

    def test_wrong_in_a_safe_state_too(self):
        common = [begin(2), batch(1, [2])]
        self.assertEqual(run(*common, cheapest(1), cheapest(2, 1), cheapest(1, 1, 1, 1))[2:], [[-2]] * 3)

    def test_a_row_as_long_as_there_may_be(self):
        self.assertEqual(last(begin(2), batch(1, [2]), cheapest(*([1] * 3996))), [-2])

    def test_changes_nothing(self):
        found = run(*BIG, TOLD, cheapest(9, 1), cheapest(9), cheapest(9, 1), TOLD)[7:]
        self.assertEqual(found[1:4], [[0, 2, 1, 2], [-2], [0, 2, 1, 2]])
        self.assertEqual(found[0], found[4])


if __name__ == "__main__":
    unittest.main()
