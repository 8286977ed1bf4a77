"""could, room and lack: why not, how much still, how much is lacking."""

import unittest

from tests.calls import FAR, LOCKED, MOST, SAFE, TOLD
from tests.calls import ask, batch, begin, could, drop, give, lack, last, more, room, run

HALF = [begin(4), batch(1, [4]), batch(2, [4]), ask(1, 2)]
UNSAFE = [begin(2), batch(1, [2]), batch(2, [2]), give(1, 1), give(2, 1)]
WRONG_NUMBERS = ((0, -1), (-1, -1), (MOST + 1, -1), (FAR, -1), (-FAR, -1), (1, -10), (MOST, -10))


class Could(unittest.TestCase):
    def test_each_answer(self):
        found = run(*HALF, could(1, 1), could(1, 3), could(2, 3), could(2, 1))[4:]
        self.assertEqual(found, [[0], [1], [2], [3, 2, 1, 2]])

    def test_outside_the_alternatives_goes_ahead_of_not_free(self):
        self.assertEqual(last(*HALF, could(1, 4)), [1])
        self.assertEqual(last(*HALF, could(1, MOST)), [1])

    def test_not_free_goes_ahead_of_not_safe(self):
        self.assertEqual(run(*HALF, could(2, 2), could(2, 3), could(2, 4))[4:], [[3, 2, 1, 2], [2], [2]])

    def test_outside_goes_ahead_of_not_safe(self):
        common = [begin(9), batch(1, [2]), batch(2, [9]), batch(3, [9]), give(2, 3), give(3, 3)]
        self.assertEqual(run(*common, could(1, 3), could(1, 2))[6:], [[1], [3, 2, 2, 3]])

    def test_stuck_ones_alone_in_the_order_in_which_they_came(self):
        common = [begin(5), batch(8, [5]), batch(2, [1]), batch(4, [5]), give(8, 2), give(2, 1)]
        self.assertEqual(run(*common, SAFE, could(4, 1))[6:], [[1, 3, 2, 8, 4], [3, 2, 8, 4]])

    def test_stuck_ones_without_the_batch_itself(self):
        # The third lacks no more than what's free, and gives back no more than it had: the others are stuck.
        common = [begin(4, 1), batch(1, [4, 0]), batch(2, [4, 0]), batch(3, [2, 0]), give(1, 1, 0), give(2, 1, 0)]
        found = run(*common, SAFE, could(3, 1, 0), could(3, 2, 0))[6:]
        self.assertEqual(found, [[0, 2, 1, 2], [3, 2, 1, 2], [3, 2, 1, 2]])

    def test_one_alternative_must_hold_it_all(self):
        common = [begin(2, 2), batch(1, [2, 0], [0, 2])]
        self.assertEqual(run(*common, could(1, 1, 1), could(1, 2, 0), could(1, 0, 2))[2:], [[1], [0], [0]])

    def test_holdings_count(self):
        common = [begin(3, 3), batch(1, [3, 0], [1, 3]), ask(1, 2, 0)]
        self.assertEqual(run(*common, could(1, 0, 1), could(1, 1, 0), could(1, 2, 0))[3:], [[1], [0], [1]])

    def test_an_alternative_may_save_it(self):
        common = [begin(4, 1), batch(1, [4, 0]), batch(2, [4, 0], [1, 1]), ask(1, 2, 0)]
        self.assertEqual(run(*common, could(2, 1, 0), could(2, 2, 0))[4:], [[0], [3, 2, 1, 2]])

    def test_one_that_waits_may_be_asked_of(self):
        self.assertEqual(run(*HALF, ask(2, 1), could(2, 0), could(2, 1))[4:], [[0], [0], [3, 2, 1, 2]])

    def test_nothing_more(self):
        self.assertEqual(last(*HALF, could(1, 0)), [0])
        self.assertEqual(last(*UNSAFE, could(1, 0)), [3, 2, 1, 2])

    def test_an_unsafe_state_stays_so(self):
        common = [begin(4), batch(1, [3]), batch(2, [4]), batch(3, [4]), give(2, 2), give(3, 1)]
        self.assertEqual(last(*common, could(1, 1)), [3, 3, 1, 2, 3])

    def test_tells_what_ask_would_do(self):
        self.assertEqual(run(*HALF, could(1, 2), ask(1, 2), could(2, 1), ask(2, 1))[4:], [[0], [1], [2], [0]])

    def test_ranges(self):
        for number, answer in WRONG_NUMBERS:
            self.assertEqual(last(begin(2), batch(7, [1]), could(number, 1)), [answer])
        self.assertEqual(last(begin(2), batch(1, [1]), could(1, 1)), [0])
        self.assertEqual(last(begin(MOST), batch(MOST, [MOST]), could(MOST, MOST)), [0])
        for wrong in ([-1], [MOST + 1], [FAR], [-FAR], [], [1, 1], [0] * 3990):
            self.assertEqual(last(begin(MOST), batch(7, [MOST]), could(7, *wrong)), [-2])

    def test_which_refusal(self):
        self.assertEqual(run(*HALF, could(0), could(3), could(1), could(1, -1))[4:], [[-1], [-10], [-2], [-2]])

    def test_before_begin(self):
        self.assertEqual(run(could(0), could(1), could(1, 1), could(MOST + 1)), [[-1], [-10], [-10], [-1]])
        self.assertEqual(run(batch(4, []), could(4), could(4, 0))[1:], [[0], [-2]])

    def test_changes_nothing(self):
        found = run(*HALF, ask(2, 1), TOLD, could(1, 1), could(1, 3), could(2, 3), could(2, 1), could(5, 1), TOLD)
        self.assertEqual(found[5], [1, 4, 2, 1, 1, 4, 2, 0, 2, 1, 4, 0, 1, 0, 1])
        self.assertEqual(found[-1], found[5])


class Room(unittest.TestCase):
    def test_totals_set_the_end(self):
        self.assertEqual(last(begin(7), batch(1, [7]), room(1, 0)), [7])
        self.assertEqual(last(begin(7), batch(1, [7]), ask(1, 5), room(1, 0)), [2])
        self.assertEqual(last(begin(0), batch(1, [0]), room(1, 0)), [0])

    def test_what_is_free_sets_the_end(self):
        common = [begin(5), batch(1, [5]), batch(2, [3]), ask(2, 3)]
        self.assertEqual(run(*common, room(1, 0), room(2, 0))[4:], [[2], [0]])

    def test_alternatives_set_the_end(self):
        self.assertEqual(last(begin(9), batch(1, [4]), room(1, 0)), [4])
        self.assertEqual(last(begin(9), batch(1, [4]), ask(1, 1), room(1, 0)), [3])
        self.assertEqual(last(begin(9), batch(1, [4], [6], [5]), ask(1, 1), room(1, 0)), [5])

    def test_alternatives_are_not_mixed(self):
        common = [begin(9, 9), batch(1, [4, 0], [2, 3])]
        self.assertEqual(run(*common, room(1, 0), room(1, 1))[2:], [[4], [3]])
        self.assertEqual(run(*common, ask(1, 1, 0), room(1, 0), room(1, 1))[3:], [[3], [3]])
        self.assertEqual(run(*common, ask(1, 3, 0), room(1, 0), room(1, 1))[3:], [[1], [0]])
        self.assertEqual(run(*common, ask(1, 0, 1), room(1, 0), room(1, 1))[3:], [[2], [2]])

    def test_safety_sets_the_end(self):
        # The second must be able to end with what's left, or the first could not end either.
        common = [begin(10), batch(1, [10]), batch(2, [6]), ask(2, 2)]
        self.assertEqual(run(*common, room(1, 0), room(2, 0))[4:], [[4], [4]])
        saved = [begin(10), batch(1, [10]), batch(2, [6], [3]), ask(2, 2)]
        self.assertEqual(last(*saved, room(1, 0)), [7])

    def test_safety_leaves_nothing(self):
        common = [begin(10), batch(1, [8]), batch(2, [5]), batch(3, [9]), ask(1, 4), ask(2, 2), ask(3, 1)]
        self.assertEqual(run(*common, room(1, 0), room(2, 0), room(3, 0))[7:], [[0], [3], [0]])

    def test_another_kind_stands_in_the_way(self):
        common = [begin(5, 1), batch(1, [5, 1]), batch(2, [5, 1]), ask(2, 0, 1)]
        self.assertEqual(run(*common, room(1, 0), room(1, 1), room(2, 0), room(2, 1))[4:], [[0], [0], [5], [0]])

    def test_of_one_that_waits(self):
        common = [begin(4, 4), batch(1, [4, 0]), batch(2, [4, 4]), ask(1, 3, 0), ask(2, 2, 0)]
        found = run(*common, room(2, 1), room(2, 0), room(1, 0), drop(2), room(2, 1), room(2, 0))[4:]
        self.assertEqual(found, [[0], [4], [0], [1], [0], [4], [0]])

    def test_as_much_is_granted_and_no_more(self):
        common = [begin(10), batch(1, [10]), batch(2, [6]), ask(2, 2), room(1, 0)]
        self.assertEqual(run(*common, ask(1, 5))[4:], [[4], [0]])
        self.assertEqual(run(*common, ask(1, 4), room(1, 0))[4:], [[4], [1], [0]])

    def test_great_numbers(self):
        common = [begin(MOST, MOST), batch(1, [MOST, MOST]), batch(2, [MOST, 1]), room(1, 0)]
        self.assertEqual(run(*common, ask(2, 1, 0), room(1, 0), room(2, 0))[3:], [[MOST], [1], [0], [MOST - 1]])
        self.assertEqual(run(*common, ask(2, 0, 1), room(1, 0), room(1, 1))[3:], [[MOST], [1], [0], [MOST - 1]])
        self.assertEqual(last(begin(MOST), batch(1, [MOST]), batch(2, [123456789]), ask(2, 1), room(1, 0)), [876543211])

    def test_unsafe(self):
        self.assertEqual(run(*UNSAFE, room(1, 0), room(2, 0), more(0, 1), room(1, 0))[5:], [[-8], [-8], [0, 0], [1]])

    def test_unsafe_for_others_too(self):
        common = [begin(9), batch(1, [2]), batch(2, [9]), batch(3, [9]), give(2, 3), give(3, 3)]
        self.assertEqual(last(*common, room(1, 0)), [-8])

    def test_ranges(self):
        for number, answer in WRONG_NUMBERS:
            self.assertEqual(last(begin(2), batch(7, [1]), room(number, 0)), [answer])
        self.assertEqual(run(begin(3), batch(MOST, [2]), batch(1, [3]), room(MOST, 0), room(1, 0))[3:], [[2], [3]])
        for j, answer in ((-1, -1), (0, 3), (1, 4), (2, -1), (FAR, -1), (-FAR, -1)):
            self.assertEqual(last(begin(3, 4), batch(7, [3, 4]), room(7, j)), [answer])
        self.assertEqual(last(begin(1, 1, 1, 1, 1, 2), batch(7, [1, 1, 1, 1, 1, 2]), room(7, 5)), [2])

    def test_which_refusal(self):
        found = run(*UNSAFE, room(0, 0), room(1, 1), room(3, 1), room(3, -1), room(3, 0), room(1, 0))[5:]
        self.assertEqual(found, [[-1], [-1], [-1], [-1], [-10], [-8]])

    def test_before_begin(self):
        self.assertEqual(run(room(1, 0), room(1, -1), room(0, 0)), [[-1]] * 3)
        self.assertEqual(run(batch(4, []), room(4, 0))[1:], [[-1]])
        self.assertEqual(run(begin(1), room(1, 0), room(1, 1))[1:], [[-10], [-1]])

    def test_changes_nothing(self):
        found = run(*HALF, ask(2, 1), TOLD, room(1, 0), room(2, 0), room(3, 0), room(1, 1), TOLD)[5:]
        self.assertEqual(found[1:5], [[2], [0], [-10], [-1]])
        self.assertEqual(found[5], found[0])


class Lack(unittest.TestCase):
    def test_safe(self):
        self.assertEqual(last(*HALF, lack(0)), [1, 0])
        self.assertEqual(last(begin(0), lack(0)), [1, 0])

    def test_some(self):
        self.assertEqual(last(*UNSAFE, lack(0)), [1, 1])
        self.assertEqual(last(begin(4), batch(1, [4]), batch(2, [4]), give(1, 2), give(2, 2), lack(0)), [1, 2])

    def test_more_when_the_first_has_ended(self):
        # Two let the second end, but three are needed for the others behind it.
        common = [begin(10), batch(1, [10]), batch(2, [6]), batch(3, [10]), give(1, 3), give(2, 3), give(3, 3)]
        self.assertEqual(last(*common, lack(0)), [1, 3])

    def test_so_much_more_makes_it_safe_and_less_does_not(self):
        common = [begin(10), batch(1, [10]), batch(2, [6]), batch(3, [10]), give(1, 3), give(2, 3), give(3, 3)]
        self.assertEqual(run(*common, more(0, 2), SAFE, lack(0))[8:], [[0, 2, 1, 3], [1, 1]])
        self.assertEqual(run(*common, more(0, 3), SAFE, lack(0))[8:], [[1, 3, 2, 1, 3], [1, 0]])

    def test_of_either_kind(self):
        common = [begin(1, 1), batch(5, [1, 1]), batch(2, [1, 1]), give(5, 1, 0), give(2, 0, 1)]
        self.assertEqual(run(*common, lack(0), lack(1))[5:], [[1, 1], [1, 1]])

    def test_none_since_another_kind_is_lacking(self):
        common = [begin(2, 2, 2), batch(1, [2, 2, 2]), batch(2, [2, 2, 2]), give(1, 1, 1, 0), give(2, 1, 1, 0)]
        self.assertEqual(run(*common, lack(0), lack(1), lack(2))[5:], [[0], [0], [0]])

    def test_one_kind_only(self):
        common = [begin(2, 2), batch(1, [2, 0]), batch(2, [2, 2]), give(1, 1, 0), give(2, 1, 0)]
        self.assertEqual(run(*common, lack(0), lack(1))[5:], [[1, 1], [0]])

    def test_none_since_an_alternative_is_outgrown(self):
        # The alternative of the second kind alone could be met, but for a copy of the first.
        common = [begin(2, 2), batch(1, [2, 1]), batch(2, [0, 2], [2, 0]), give(1, 1, 1)]
        self.assertEqual(run(*common, give(2, 1, 0), lack(0), lack(1))[4:], [[0], [1, 1], [0]])
        self.assertEqual(run(*common, give(2, 0, 1), lack(0), lack(1))[4:], [[1], [1, 0], [1, 0]])

    def test_the_alternative_of_which_less_is_lacking(self):
        common = [begin(9), batch(1, [9]), batch(2, [9], [6], [8]), give(1, 5), give(2, 3)]
        self.assertEqual(run(*common, lack(0))[4:], [[0], [1, 2]])
        # A smaller claim that's outgrown doesn't count.
        common = [begin(9), batch(1, [9]), batch(2, [9], [6], [2]), give(1, 5), give(2, 3)]
        self.assertEqual(last(*common, lack(0)), [1, 2])

    def test_much(self):
        half = MOST // 2
        common = [begin(MOST), batch(1, [MOST]), batch(2, [MOST]), give(1, half), give(2, half)]
        self.assertEqual(last(*common, lack(0)), [1, half])
        tenth = MOST // 10
        comes = [batch(number, [MOST]) for number in range(1, 11)]
        gives = [give(number, tenth) for number in range(1, 11)]
        self.assertEqual(last(begin(MOST), *comes, *gives, lack(0)), [1, MOST - tenth])

    def test_more_than_more_could_bring(self):
        common = [begin(MOST), batch(1, [MOST]), batch(2, [MOST]), give(1, 400000000), give(2, 600000000)]
        self.assertEqual(run(*common, lack(0), more(0, 400000000))[5:], [[1, 400000000], [-6]])

    def test_much_is_lacking_of_two_kinds(self):
        half = MOST // 2
        common = [begin(MOST, MOST), batch(1, [MOST, MOST]), batch(2, [MOST, MOST]), give(1, half, half)]
        self.assertEqual(run(*common, give(2, half, half), lack(0), lack(1))[4:], [[0], [0], [0]])
        self.assertEqual(run(*common, give(2, half, 0), lack(0), lack(1))[4:], [[0], [1, half], [0]])

    def test_requests_do_not_count(self):
        common = [begin(2), batch(1, [2]), batch(2, [2]), ask(1, 1), ask(2, 1)]
        self.assertEqual(run(*common, lack(0), LOCKED)[4:], [[0], [1, 0], [0]])

    def test_range(self):
        for j, answer in ((-1, [-1]), (0, [1, 1]), (1, [0]), (2, [-1]), (FAR, [-1]), (-FAR, [-1])):
            common = [begin(2, 1), batch(1, [2, 0]), batch(2, [2, 0]), give(1, 1, 0), give(2, 1, 0)]
            self.assertEqual(last(*common, lack(j)), answer)
        self.assertEqual(run(begin(1, 1, 1, 1, 1, 1), lack(5), lack(6))[1:], [[1, 0], [-1]])

    def test_before_begin(self):
        self.assertEqual(run(lack(0), lack(-1), lack(1), batch(4, []), lack(0)), [[-1], [-1], [-1], [0], [-1]])

    def test_changes_nothing(self):
        found = run(*UNSAFE, TOLD, lack(0), lack(0), lack(1), TOLD, SAFE)[5:]
        self.assertEqual(found[1:4], [[1, 1], [1, 1], [-1]])
        self.assertEqual(found[4], found[0])
        self.assertEqual(found[5], [0, 2, 1, 2])


if __name__ == "__main__":
    unittest.main()
