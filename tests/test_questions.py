"""safe, locked and free."""

import unittest

from tests.calls import FREE, LOCKED, SAFE
from tests.calls import ask, back, batch, begin, end, give, last, more, run


class Safe(unittest.TestCase):
    def test_without_batches(self):
        self.assertEqual(last(begin(2), SAFE), [1, 0])

    def test_order_is_that_in_which_they_came(self):
        self.assertEqual(last(begin(2), batch(9, [2]), batch(3, [1]), batch(5, [0]), SAFE), [1, 3, 9, 3, 5])

    def test_always_the_first_that_can_end(self):
        # The first can't end before the third, the second could only behind both.
        common = [begin(10), batch(1, [8]), batch(2, [10]), batch(3, [5]), give(1, 4), give(2, 1), give(3, 2)]
        self.assertEqual(run(*common, SAFE)[4:], [[1], [1], [1], [1, 3, 3, 1, 2]])

    def test_looks_from_the_front_again_after_each_end(self):
        common = [begin(3), batch(1, [3]), batch(2, [1]), batch(3, [1]), give(2, 1), give(3, 1)]
        self.assertEqual(last(*common, SAFE), [1, 3, 2, 3, 1])
        self.assertEqual(last(*common, give(1, 1), SAFE), [1, 3, 2, 3, 1])
        common = [begin(3), batch(1, [2]), batch(2, [1]), batch(3, [1]), give(1, 1), give(2, 1), give(3, 1)]
        self.assertEqual(last(*common, SAFE), [1, 3, 2, 1, 3])

    def test_stuck_ones_in_the_order_in_which_they_came(self):
        common = [begin(5), batch(8, [5]), batch(2, [1]), batch(4, [5]), give(4, 2), give(8, 2), give(2, 1)]
        self.assertEqual(last(*common, SAFE), [0, 2, 8, 4])

    def test_all_are_stuck(self):
        self.assertEqual(last(begin(2), batch(2, [2]), batch(1, [2]), give(1, 1), give(2, 1), SAFE), [0, 2, 2, 1])

    def test_several_kinds(self):
        common = [begin(1, 1), batch(1, [1, 1]), batch(2, [1, 1]), give(1, 1, 0)]
        self.assertEqual(last(*common, SAFE), [1, 2, 1, 2])
        self.assertEqual(last(*common, give(2, 0, 1), SAFE), [0, 2, 1, 2])

    def test_claims_given_back_are_counted_of_all_kinds(self):
        common = [begin(2, 2), batch(1, [1, 2]), batch(2, [2, 1]), give(1, 0, 1), give(2, 1, 0)]
        self.assertEqual(last(*common, SAFE), [1, 2, 1, 2])
        common = [begin(2, 2), batch(1, [2, 2]), batch(2, [1, 1]), give(1, 1, 1), give(2, 1, 0)]
        self.assertEqual(last(*common, SAFE), [1, 2, 2, 1])

    def test_one_alternative_is_enough(self):
        common = [begin(2, 1), batch(1, [2, 0]), batch(2, [2, 0], [1, 0]), give(1, 1, 0), give(2, 1, 0)]
        self.assertEqual(last(*common, SAFE), [1, 2, 2, 1])

    def test_alternatives_are_not_mixed(self):
        # What's lacking of either kind is there, but of no one alternative altogether.
        common = [begin(2, 2), batch(1, [2, 2]), batch(2, [2, 0], [0, 2]), give(1, 1, 1)]
        self.assertEqual(last(*common, SAFE), [1, 2, 1, 2])
        common = [begin(2, 2), batch(1, [2, 2]), batch(2, [2, 1], [1, 2]), give(1, 1, 1), give(2, 1, 1)]
        self.assertEqual(last(*common, SAFE), [0, 2, 1, 2])

    def test_alternative_that_no_longer_counts(self):
        # With a copy of the first kind, the alternative of the second kind alone is gone.
        tight = [begin(2, 2), batch(1, [2, 2]), batch(2, [0, 1], [2, 0]), give(1, 1, 1)]
        self.assertEqual(run(*tight, give(2, 1, 0), SAFE)[4:], [[0], [0, 2, 1, 2]])
        self.assertEqual(run(*tight, give(2, 1, 0), back(2, 1, 0), SAFE)[4:], [[0], [0, 0], [1, 2, 1, 2]])
        self.assertEqual(run(*tight, give(2, 0, 1), SAFE)[4:], [[1], [1, 2, 2, 1]])

    def test_requests_do_not_count(self):
        common = [begin(2), batch(1, [2]), batch(2, [2]), ask(1, 1), ask(2, 1)]
        self.assertEqual(run(*common, SAFE)[4:], [[0], [1, 2, 1, 2]])

    def test_more_copies_may_make_it_safe(self):
        common = [begin(2), batch(1, [2]), batch(2, [2]), give(1, 1), give(2, 1)]
        self.assertEqual(run(*common, SAFE, more(0, 1), SAFE)[5:], [[0, 2, 1, 2], [0, 0], [1, 2, 1, 2]])

    def test_end_may_make_it_safe(self):
        common = [begin(2), batch(1, [2]), batch(2, [2]), give(1, 1), give(2, 1)]
        self.assertEqual(run(*common, end(1), SAFE)[5:], [[0, 0], [1, 1, 2]])

    def test_ten_batches(self):
        comes = [batch(number, [number]) for number in range(10, 0, -1)]
        gives = [give(number, 1) for number in range(2, 11)]
        found = run(begin(10), *comes, *gives, SAFE)
        self.assertEqual(found[-1], [1, 10, 2, 3, 4, 5, 6, 7, 8, 9, 10, 1])


class Locked(unittest.TestCase):
    def test_none_without_batches(self):
        self.assertEqual(last(begin(2), LOCKED), [0])

    def test_who_waits_for_nothing_goes_on(self):
        # Unsafe, but nobody waits: none is locked now.
        common = [begin(2), batch(1, [2]), batch(2, [2]), give(1, 1), give(2, 1)]
        self.assertEqual(run(*common, SAFE, LOCKED)[5:], [[0, 2, 1, 2], [0]])

    def test_two_that_wait_for_each_other(self):
        common = [begin(1, 1), batch(5, [1, 1]), batch(2, [1, 1]), give(5, 1, 0), give(2, 0, 1)]
        self.assertEqual(run(*common, ask(5, 0, 1), LOCKED, ask(2, 1, 0), LOCKED)[5:], [[0], [0], [0], [2, 5, 2]])

    def test_in_the_order_in_which_they_came_not_of_requests(self):
        common = [begin(1, 1), batch(5, [1, 1]), batch(2, [1, 1]), give(5, 1, 0), give(2, 0, 1)]
        self.assertEqual(last(*common, ask(2, 1, 0), ask(5, 0, 1), LOCKED), [2, 5, 2])

    def test_who_goes_on_ends_and_gives_back(self):
        common = [begin(1, 1), batch(1, [1, 1]), batch(2, [1, 1]), batch(3, [1, 0])]
        common += [give(1, 0, 1), give(3, 1, 0), ask(1, 1, 0), ask(2, 0, 1)]
        self.assertEqual(run(*common, LOCKED)[-3:], [[0], [0], [0]])

    def test_some_are_left_behind_one_that_goes_on(self):
        common = [begin(1, 1, 3), batch(1, [1, 1, 0]), batch(2, [1, 1, 0]), batch(3, [0, 0, 3])]
        common += [give(1, 1, 0, 0), give(2, 0, 1, 0), give(3, 0, 0, 2), ask(1, 0, 1, 0), ask(2, 1, 0, 0)]
        self.assertEqual(last(*common, LOCKED), [2, 1, 2])

    def test_waits_behind_the_locked_ones(self):
        common = [begin(1, 1), batch(1, [1, 1]), batch(2, [1, 1]), batch(3, [1, 0])]
        common += [give(1, 1, 0), give(2, 0, 1), ask(3, 1, 0), ask(1, 0, 1), ask(2, 1, 0)]
        self.assertEqual(last(*common, LOCKED), [3, 1, 2, 3])

    def test_request_that_is_free_goes_on_though_it_was_not_granted(self):
        common = [begin(4), batch(1, [4]), batch(2, [4]), ask(1, 2), ask(2, 1)]
        self.assertEqual(run(*common, LOCKED)[4:], [[0], [0]])

    def test_no_claim_counts_but_the_request(self):
        # The request is free, though the rest of the claim never will be: locked looks at now.
        common = [begin(3), batch(1, [3]), batch(2, [3]), give(1, 1), give(2, 1), ask(1, 1), ask(2, 1)]
        self.assertEqual(run(*common, SAFE, LOCKED)[5:], [[0], [0], [0, 2, 1, 2], [0]])

    def test_request_of_two_kinds(self):
        common = [begin(1, 1, 1), batch(1, [1, 1, 1]), batch(2, [1, 1, 1]), give(1, 1, 0, 0), give(2, 0, 1, 0)]
        self.assertEqual(last(*common, ask(1, 0, 1, 1), ask(2, 1, 0, 1), LOCKED), [2, 1, 2])
        self.assertEqual(last(*common, ask(1, 0, 0, 1), ask(2, 1, 0, 1), LOCKED), [0])


class Free(unittest.TestCase):
    def test_less_what_all_hold(self):
        common = [begin(7, 0, 5), batch(1, [3, 0, 3]), batch(2, [7, 0, 1]), ask(1, 1, 0, 2), ask(2, 2, 0, 1)]
        self.assertEqual(run(*common, FREE)[3:], [[1], [1], [4, 0, 2]])

    def test_one_and_six_kinds(self):
        self.assertEqual(last(begin(7), FREE), [7])
        self.assertEqual(last(begin(6, 5, 4, 3, 2, 1), FREE), [6, 5, 4, 3, 2, 1])

    def test_requests_do_not_count(self):
        self.assertEqual(last(begin(2), batch(1, [2]), batch(2, [2]), ask(1, 1), ask(2, 1), FREE), [1])


class QuestionsChangeNothing(unittest.TestCase):
    def test_asked_over_and_over(self):
        common = [begin(1, 1), batch(5, [1, 1]), batch(2, [1, 1]), give(5, 1, 0), give(2, 0, 1)]
        common += [ask(5, 0, 1), ask(2, 1, 0)]
        found = run(*common, SAFE, LOCKED, FREE, SAFE, LOCKED, FREE)[7:]
        self.assertEqual(found[:3], [[0, 2, 5, 2], [2, 5, 2], [0, 0]])
        self.assertEqual(found[3:], found[:3])


if __name__ == "__main__":
    unittest.main()
