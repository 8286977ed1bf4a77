"""check, blocks and told."""

import unittest

from tests.calls import FAR, MOST, TOLD
from tests.calls import ask, back, batch, begin, blocks, check, drop, end, give, last, more, run
from safegrants.works import answers

ONLY_ONE = [begin(10), batch(1, [8]), batch(2, [10]), batch(3, [5]), give(1, 4), give(2, 1), give(3, 2)]
SOME_STUCK = [begin(5), batch(8, [5]), batch(2, [1]), batch(4, [5]), give(4, 2), give(8, 2), give(2, 1)]

# 1 and 2 hold what the other lacks; 3 only waits behind 1.
RING = [begin(1, 1), batch(1, [1, 1]), batch(2, [1, 1]), batch(3, [1, 0]), give(1, 1, 0), give(2, 0, 1)]

WRONG_NAMES = (4, 0, -1, MOST, MOST + 1, FAR, -FAR)


class Check(unittest.TestCase):
    def test_all_in_an_order(self):
        self.assertEqual(last(*ONLY_ONE, check(3, 1, 2)), [0, 3])

    def test_some_in_an_order(self):
        self.assertEqual(run(*ONLY_ONE, check(3), check(3, 1))[7:], [[0, 1], [0, 2]])

    def test_none(self):
        self.assertEqual(run(*ONLY_ONE, check())[7:], [[0, 0]])
        self.assertEqual(run(check(), begin(1), check()), [[0, 0], [0], [0, 0]])

    def test_the_first_that_can_not(self):
        found = run(*ONLY_ONE, check(1), check(1, 3), check(2, 1, 3), check(3, 2), check(3, 2, 1))[7:]
        self.assertEqual(found, [[1, 1], [1, 1], [1, 2], [1, 2], [1, 2]])

    def test_what_they_held_is_free_for_the_next(self):
        common = [begin(2), batch(1, [1]), batch(2, [2]), give(1, 1), give(2, 1)]
        self.assertEqual(run(*common, check(2), check(1, 2), check(2, 1))[5:], [[1, 2], [0, 2], [1, 2]])

    def test_those_that_are_not_named_keep_what_they_hold(self):
        common = [begin(3), batch(1, [3]), batch(2, [1]), batch(3, [1]), give(2, 1), give(3, 1)]
        self.assertEqual(run(*common, check(2, 1), check(2, 3, 1), check(3, 2))[6:], [[1, 1], [0, 3], [0, 2]])

    def test_unsafe(self):
        self.assertEqual(run(*SOME_STUCK, check(2), check(2, 4), check(8), check())[7:], [[0, 1], [1, 4], [1, 8], [0, 0]])

    def test_each_alternative_that_counts(self):
        common = [begin(2, 2), batch(1, [2, 2]), batch(2, [0, 1], [2, 0]), give(1, 1, 1)]
        self.assertEqual(run(*common, check(2, 1), give(2, 1, 0), check(2))[4:], [[0, 2], [0], [1, 2]])

    def test_requests_do_not_count(self):
        common = [begin(2), batch(1, [2]), batch(2, [2]), ask(1, 1), ask(2, 1)]
        self.assertEqual(run(*common, check(1, 2), check(2))[5:], [[0, 2], [1, 2]])

    def test_batches_that_are_not_there(self):
        for wrong in WRONG_NAMES:
            self.assertEqual(run(*ONLY_ONE, check(wrong), check(3, wrong), check(2, wrong))[7:], [[-2]] * 3)
        self.assertEqual(run(*ONLY_ONE, end(3), check(3), check(1))[8:], [[-2], [0, 1]])
        self.assertEqual(run(check(1), begin(1), check(1)), [[-2], [0], [-2]])

    def test_named_twice(self):
        self.assertEqual(run(*ONLY_ONE, check(3, 3), check(3, 1, 3), check(2, 2))[7:], [[-2]] * 3)

    def test_a_row_as_long_as_there_may_be(self):
        self.assertEqual(last(begin(2), batch(1, [2]), check(*([1] * 3996))), [-2])

    def test_batches_of_no_kinds(self):
        self.assertEqual(run(batch(4, []), batch(3, []), check(3, 4), check(4))[2:], [[0, 2], [0, 1]])

    def test_changes_nothing(self):
        found = run(*ONLY_ONE, TOLD, check(3, 1, 2), check(2), check(3, 3), check(3, 1, 2), TOLD)[7:]
        self.assertEqual(found[1:5], [[0, 3], [1, 2], [-2], [0, 3]])
        self.assertEqual(found[5], found[0])


class Blocks(unittest.TestCase):
    def test_none_named(self):
        self.assertEqual(run(blocks(), begin(1), blocks(), batch(1, [1]), blocks()), [[0], [0], [0], [0], [0]])
        self.assertEqual(last(*SOME_STUCK, blocks()), [0])

    def test_all_that_are_stuck(self):
        self.assertEqual(run(*SOME_STUCK, blocks(8, 4), blocks(4, 8))[7:], [[1], [1]])
        self.assertEqual(last(*RING, blocks(3, 2, 1)), [1])

    def test_some_of_those_that_are_stuck(self):
        self.assertEqual(run(*RING, blocks(1, 2), blocks(2, 1))[6:], [[1], [1]])
        self.assertEqual(run(*RING, blocks(1, 3), blocks(2, 3), blocks(1), blocks(2), blocks(3))[6:], [[0]] * 5)
        self.assertEqual(run(*SOME_STUCK, blocks(8), blocks(4))[7:], [[0], [0]])

    def test_with_one_that_can_end(self):
        self.assertEqual(run(*SOME_STUCK, blocks(8, 2, 4), blocks(2), blocks(2, 8))[7:], [[0], [0], [0]])

    def test_one_that_can_end_only_when_others_have(self):
        # All others have ended, whether they could or not: so it counts what they held.
        self.assertEqual(run(*ONLY_ONE, blocks(2), blocks(1, 2), blocks(2, 3), blocks(1, 2, 3))[7:], [[0]] * 4)

    def test_those_of_a_state_that_would_not_be_safe(self):
        common = [begin(4), batch(1, [4]), batch(2, [4]), batch(3, [4]), give(1, 1), give(2, 1), give(3, 2)]
        found = run(*common, blocks(1, 2), blocks(1, 3), blocks(2, 3), blocks(1, 2, 3))[7:]
        # With 4 less 1 and 1 the first two lack 3 of 2; with 4 less 1 and 2 the first lacks 3 and the third 2 of 1.
        self.assertEqual(found, [[1], [1], [1], [1]])

    def test_none_blocks_in_a_safe_state(self):
        common = [begin(2), batch(1, [2]), batch(2, [2]), ask(1, 1), ask(2, 1)]
        self.assertEqual(run(*common, blocks(1), blocks(2), blocks(1, 2))[5:], [[0]] * 3)

    def test_batches_that_are_not_there(self):
        for wrong in WRONG_NAMES:
            self.assertEqual(run(*ONLY_ONE, blocks(wrong), blocks(3, wrong))[7:], [[-2]] * 2)
        self.assertEqual(run(*RING, end(3), blocks(3), blocks(1, 2))[7:], [[-2], [1]])
        self.assertEqual(run(blocks(1), begin(1), blocks(1)), [[-2], [0], [-2]])

    def test_named_twice(self):
        self.assertEqual(run(*RING, blocks(1, 1), blocks(1, 2, 1), blocks(3, 3))[6:], [[-2]] * 3)

    def test_a_row_as_long_as_there_may_be(self):
        self.assertEqual(last(begin(2), batch(1, [2]), blocks(*([1] * 3996))), [-2])

    def test_batches_of_no_kinds(self):
        self.assertEqual(run(batch(4, []), blocks(4), blocks())[1:], [[0], [0]])

    def test_changes_nothing(self):
        found = run(*RING, TOLD, blocks(1, 2), blocks(3), blocks(3, 3), blocks(1, 2), TOLD)[6:]
        self.assertEqual(found[1:5], [[1], [0], [-2], [1]])
        self.assertEqual(found[5], found[0])


class Told(unittest.TestCase):
    def test_before_begin(self):
        self.assertEqual(last(TOLD), [0, 0])
        self.assertEqual(answers(TOLD), [2, 0, 0])
        self.assertEqual(run(batch(4, [], []), batch(3, []), TOLD)[2:], [[0, 2, 4, 2, 0, 3, 1, 0]])

    def test_without_batches(self):
        self.assertEqual(last(begin(3, 0, 5), TOLD), [3, 3, 0, 5, 0])
        self.assertEqual(last(begin(1, 2, 3, 4, 5, MOST), TOLD), [6, 1, 2, 3, 4, 5, MOST, 0])

    def test_alternatives_and_holdings(self):
        common = [begin(3, 1), batch(7, [3, 1], [2, 0]), batch(2, [3, 0]), ask(7, 1, 1)]
        self.assertEqual(last(*common, TOLD), [2, 3, 1, 2, 7, 2, 3, 1, 2, 0, 1, 1, 0, 2, 1, 3, 0, 0, 0, 0])

    def test_a_request(self):
        common = [begin(3, 1), batch(7, [3, 1], [2, 0]), batch(2, [3, 0]), ask(7, 1, 1), ask(2, 3, 0)]
        told = [2, 3, 1, 2, 7, 2, 3, 1, 2, 0, 1, 1, 0, 2, 1, 3, 0, 0, 0, 1, 0, 3, 0]
        self.assertEqual(last(*common, TOLD), told)

    def test_alternatives_stay_as_they_came(self):
        common = [begin(3), batch(7, [3], [1], [1], [2]), ask(7, 2)]
        self.assertEqual(last(*common, TOLD), [1, 3, 1, 7, 4, 3, 1, 1, 2, 2, 0])

    def test_order_in_which_they_came(self):
        common = [begin(3), batch(9, [1]), batch(2, [2]), batch(5, [3]), end(9), batch(9, [0])]
        self.assertEqual(last(*common, TOLD), [1, 3, 3, 2, 1, 2, 0, 0, 5, 1, 3, 0, 0, 9, 1, 0, 0, 0])

    def test_more_back_and_give(self):
        common = [begin(3, 3), batch(9, [3, 3]), give(9, 2, 1), back(9, 1, 1), more(1, 4)]
        self.assertEqual(last(*common, TOLD), [2, 3, 7, 1, 9, 1, 3, 3, 1, 0, 0])

    def requests(self, *calls):
        """What's told of each of the batches of one kind with one alternative: its number, held, request."""
        told = last(*calls, TOLD)
        found = []
        at = 3
        while at < len(told):
            size = 7 if told[at + 4] == 1 else 5
            found.append(told[at:at + 1] + told[at + 3:at + size])
            at += size
        self.assertEqual(len(found), told[2])
        return found

    def test_requests_numbers(self):
        full = [begin(4), batch(9, [4]), batch(1, [4]), batch(2, [4]), batch(3, [4]), ask(9, 4)]
        waits = [*full, ask(2, 1), ask(1, 2), ask(3, 3)]
        self.assertEqual(self.requests(*full), [[9, 4, 0], [1, 0, 0], [2, 0, 0], [3, 0, 0]])
        self.assertEqual(self.requests(*waits), [[9, 4, 0], [1, 0, 1, 1, 2], [2, 0, 1, 0, 1], [3, 0, 1, 2, 3]])
        again = [*waits, drop(2), ask(2, 4)]
        self.assertEqual(self.requests(*again), [[9, 4, 0], [1, 0, 1, 1, 2], [2, 0, 1, 3, 4], [3, 0, 1, 2, 3]])
        self.assertEqual(self.requests(*again, end(9)), [[1, 2, 0], [2, 0, 1, 3, 4], [3, 0, 1, 2, 3]])
        late = [*waits, end(9), ask(2, 1)]
        self.assertEqual(self.requests(*late), [[1, 0, 1, 1, 2], [2, 2, 0], [3, 0, 1, 2, 3]])

    def test_a_request_that_is_granted_at_once_has_no_number(self):
        common = [begin(4), batch(1, [4]), batch(2, [4]), ask(1, 1), ask(1, 1), ask(2, 9), ask(2, 1)]
        self.assertEqual(self.requests(*common), [[1, 2, 0], [2, 0, 1, 0, 1]])

    def test_given_while_it_waits(self):
        common = [begin(4), batch(1, [4]), batch(2, [4]), ask(1, 2), ask(2, 2), give(2, 1)]
        self.assertEqual(self.requests(*common), [[1, 2, 0], [2, 1, 1, 0, 2]])

    def test_second_begin_numbers_anew(self):
        full = [begin(4), batch(9, [4]), batch(1, [4]), ask(9, 4), ask(1, 1), drop(1), ask(1, 2)]
        self.assertEqual(self.requests(*full), [[9, 4, 0], [1, 0, 1, 1, 2]])
        self.assertEqual(self.requests(*full, begin(4)), [])
        self.assertEqual(self.requests(*full, begin(4), batch(1, [3]), batch(2, [4]), ask(1, 1), ask(2, 4)),
                         [[1, 1, 0], [2, 0, 1, 0, 4]])
        self.assertEqual(self.requests(*full, begin(), drop(1), ask(1, 3)), [[9, 4, 0], [1, 0, 1, 2, 3]])

    def test_a_request_of_nothing(self):
        unsafe = [begin(2), batch(1, [2]), batch(2, [2]), give(1, 1), give(2, 1), ask(1, 0)]
        self.assertEqual(self.requests(*unsafe), [[1, 1, 1, 0, 0], [2, 1, 0]])

    def test_ten_batches(self):
        comes = [batch(number, [1, 2, 3, 4, 5, 6], [6, 5, 4, 3, 2, 1]) for number in range(1, 11)]
        told = [6, 6, 6, 6, 6, 6, 6, 10]
        for number in range(1, 11):
            told += [number, 2, 1, 2, 3, 4, 5, 6, 6, 5, 4, 3, 2, 1, 0, 0, 0, 0, 0, 0, 0]
        self.assertEqual(last(begin(6, 6, 6, 6, 6, 6), *comes, TOLD), told)

    def test_changes_nothing(self):
        found = run(*RING, ask(3, 1, 0), TOLD, TOLD, TOLD)[7:]
        self.assertEqual(found, [found[0]] * 3)


if __name__ == "__main__":
    unittest.main()
