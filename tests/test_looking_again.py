"""back and end, and how requests are looked at again after back, end and more."""

import unittest

from tests.calls import FAR, FREE, LOCKED, MOST, SAFE
from tests.calls import ask, back, batch, begin, drop, end, give, last, more, run


class Back(unittest.TestCase):
    def test_holds_so_much_less(self):
        found = run(begin(5, 2), batch(1, [4, 2]), ask(1, 3, 2), back(1, 1, 2), FREE, back(1, 2, 0), FREE)
        self.assertEqual(found[3:], [[0, 0], [3, 2], [0, 0], [5, 2]])

    def test_nothing_given_back(self):
        self.assertEqual(run(begin(5), batch(1, [4]), back(1, 0), FREE)[2:], [[0, 0], [5]])

    def test_keeps_its_claim(self):
        self.assertEqual(run(begin(5), batch(1, [4]), ask(1, 4), back(1, 3), ask(1, 3), FREE)[3:], [[0, 0], [1], [1]])

    def test_still_waits(self):
        common = [begin(4), batch(1, [4]), batch(2, [4]), ask(2, 1), ask(1, 3), ask(1, 0)]
        self.assertEqual(run(*common)[3:], [[1], [0], [-7]])
        self.assertEqual(run(*common, back(2, 0), drop(1))[6:], [[0, 0], [0]])

    def test_may_be_granted_by_its_own_back(self):
        unsafe = [begin(4), batch(1, [4]), batch(2, [4]), give(1, 2), give(2, 2), ask(1, 1)]
        self.assertEqual(run(*unsafe, back(1, 2), FREE, SAFE)[5:], [[0], [0, 0], [2], [1, 2, 2, 1]])
        self.assertEqual(run(*unsafe, back(2, 2), FREE, SAFE)[5:], [[0], [0, 1, 1], [1], [1, 2, 1, 2]])
        alone = [begin(4), batch(1, [4]), batch(2, [3]), give(2, 2), ask(1, 3), give(1, 2)]
        self.assertEqual(run(*alone, back(2, 2), back(1, 1), FREE)[4:], [[0], [0], [0, 0], [0, 1, 1], [0]])

    def test_ranges(self):
        for number, answer in ((0, -1), (-FAR, -1), (MOST + 1, -1), (FAR, -1), (1, -10), (MOST, -10)):
            self.assertEqual(last(begin(2), batch(7, [1]), back(number, 0)), [answer])
        for wrong in ([-1], [MOST + 1], [FAR], [-FAR], [], [0, 0]):
            self.assertEqual(last(begin(MOST), batch(7, [MOST]), back(7, *wrong)), [-2])
        self.assertEqual(last(begin(MOST), batch(7, [MOST]), give(7, MOST), back(7, MOST)), [0, 0])

    def test_which_refusal(self):
        common = [begin(3, 3), batch(1, [3, 3]), ask(1, 2, 1)]
        self.assertEqual(last(*common, back(0)), [-1])
        self.assertEqual(last(*common, back(2)), [-10])
        self.assertEqual(last(*common, back(1, 3)), [-2])
        self.assertEqual(last(*common, back(1, 3, 0)), [-4])
        self.assertEqual(last(*common, back(1, 0, 2)), [-4])
        self.assertEqual(last(*common, back(1, 2, 1)), [0, 0])

    def test_back_may_mend_an_unsafe_state(self):
        unsafe = [begin(4), batch(1, [4]), batch(2, [4]), give(1, 2), give(2, 1)]
        self.assertEqual(run(*unsafe, back(2, 1), SAFE)[4:], [[0], [0, 0], [1, 2, 1, 2]])


class End(unittest.TestCase):
    def test_what_it_held_is_free(self):
        found = run(begin(5, 2), batch(1, [4, 2]), ask(1, 3, 1), end(1), FREE, SAFE, end(1))
        self.assertEqual(found[3:], [[0, 0], [5, 2], [1, 0], [-10]])

    def test_may_end_without_its_claim(self):
        self.assertEqual(last(begin(5), batch(1, [4]), end(1)), [0, 0])

    def test_its_request_is_gone(self):
        common = [begin(4), batch(1, [4]), batch(2, [4]), ask(1, 4), ask(2, 1)]
        self.assertEqual(run(*common, end(2), end(1), FREE)[5:], [[0, 0], [0, 0], [4]])

    def test_comes_again_without_its_request(self):
        common = [begin(4), batch(1, [4]), batch(2, [4]), ask(1, 4), ask(2, 1), end(2), batch(2, [4])]
        self.assertEqual(run(*common, drop(2), end(1), FREE)[7:], [[-7], [0, 0], [4]])

    def test_refusals(self):
        for number, answer in ((0, -1), (-1, -1), (-FAR, -1), (MOST + 1, -1), (FAR, -1), (2, -10), (MOST, -10)):
            self.assertEqual(run(begin(2), batch(1, [1]), end(number), SAFE)[2:], [[answer], [1, 1, 1]])


class LookedAtAgain(unittest.TestCase):
    def all_held(self, *requests):
        """Three that wait for parts of six copies, which the first batch holds, by its number 9."""
        comes = [batch(number, [6]) for number in (1, 2, 3)]
        return [begin(6), batch(9, [6]), *comes, ask(9, 6), *requests]

    def test_order_in_which_requests_came(self):
        self.assertEqual(last(*self.all_held(ask(1, 1), ask(2, 6)), end(9)), [0, 1, 1])
        self.assertEqual(last(*self.all_held(ask(2, 6), ask(1, 1)), end(9)), [0, 1, 2])

    def test_granted_are_told_in_the_order_of_requests(self):
        comes = [batch(number, [2]) for number in (1, 2, 3)]
        common = [begin(6), batch(9, [6]), *comes, ask(9, 6), ask(3, 2), ask(1, 2), ask(2, 2)]
        self.assertEqual(run(*common, end(9), FREE, drop(1))[-3:], [[0, 3, 3, 1, 2], [0], [-7]])

    def test_one_that_is_passed_over_does_not_hold_up_later_ones(self):
        common = self.all_held(ask(1, 5), ask(2, 3), ask(3, 1))
        self.assertEqual(run(*common, back(9, 3), FREE, back(9, 1), FREE)[-4:], [[0, 0], [3], [0, 0], [4]])
        small = [begin(6), batch(9, [6]), batch(1, [6]), batch(2, [2]), ask(9, 6), ask(1, 4), ask(2, 2)]
        self.assertEqual(run(*small, back(9, 3), FREE, drop(2), drop(1))[-4:], [[0, 1, 2], [1], [-7], [0]])
        self.assertEqual(run(*small, back(9, 5), FREE, drop(2), drop(1))[-4:], [[0, 1, 2], [3], [-7], [0]])
        self.assertEqual(run(*small, end(9), FREE)[-2:], [[0, 2, 1, 2], [0]])

    def test_a_grant_makes_a_later_one_impossible(self):
        common = [begin(4), batch(9, [4]), batch(1, [4]), batch(2, [4]), ask(9, 4), ask(1, 1), ask(2, 1)]
        self.assertEqual(run(*common, end(9), FREE, drop(2))[-3:], [[0, 1, 1], [3], [0]])

    def test_each_is_gone_through_once(self):
        common = [begin(4), batch(9, [4]), batch(1, [4]), batch(2, [1]), ask(9, 4), ask(1, 4), ask(2, 1)]
        self.assertEqual(run(*common, back(9, 1), FREE)[-2:], [[0, 1, 2], [0]])
        self.assertEqual(run(*common, end(9), FREE, end(1))[-3:], [[0, 1, 1], [0], [0, 1, 2]])

    def test_first_that_waits_is_not_the_first_that_came(self):
        common = self.all_held(ask(3, 4), ask(2, 4), ask(1, 4))
        found = run(*common, end(9), end(3), end(2), end(1), FREE)
        self.assertEqual(found[-5:], [[0, 1, 3], [0, 1, 2], [0, 1, 1], [0, 0], [6]])

    def test_granted_one_waits_no_longer(self):
        common = self.all_held(ask(1, 2))
        self.assertEqual(run(*common, end(9), drop(1), ask(1, 4), ask(1, 1))[-4:], [[0, 1, 1], [-7], [1], [-4]])

    def test_more_copies_grant(self):
        common = self.all_held(ask(1, 1), ask(2, 1))
        self.assertEqual(run(*common, more(0, 1), FREE)[-2:], [[0, 1, 1], [0]])
        self.assertEqual(run(*common, more(0, 4), FREE)[-2:], [[0, 2, 1, 2], [2]])

    def test_more_of_another_kind_does_not_grant(self):
        common = [begin(2, 2), batch(1, [2, 2]), batch(2, [2, 2]), ask(1, 2, 0), ask(2, 1, 1)]
        self.assertEqual(run(*common, more(1, 9), more(0, 1))[-2:], [[0, 0], [0, 1, 2]])

    def test_back_grants_another(self):
        common = [begin(3), batch(1, [3]), batch(2, [1]), ask(1, 3), ask(2, 1)]
        self.assertEqual(run(*common, back(1, 1), FREE, SAFE)[5:], [[0, 1, 2], [0], [1, 2, 2, 1]])

    def test_nothing_is_granted_while_the_state_is_unsafe(self):
        unsafe = [begin(4), batch(1, [4]), batch(2, [4]), batch(3, [2]), give(1, 2), give(2, 2), ask(3, 1)]
        found = run(*unsafe, more(0, 1), more(0, 1))
        self.assertEqual(found[-2:], [[0, 0], [0, 1, 3]])

    def test_new_order_after_begin(self):
        before = self.all_held(ask(3, 1), ask(2, 1), ask(1, 1))
        after = self.all_held(ask(1, 6), ask(3, 6))
        self.assertEqual(last(*before, *after, end(9)), [0, 1, 1])

    def test_nobody_waits(self):
        self.assertEqual(run(begin(2), more(0, 1), batch(1, [2]), batch(2, [2]), end(2), LOCKED)[4:], [[0, 0], [0]])


if __name__ == "__main__":
    unittest.main()
