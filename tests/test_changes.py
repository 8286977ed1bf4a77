"""begin, batch, ask, give, drop and more: ordinary inputs, refusals and ranges."""

import unittest

from tests.calls import FAR, FREE, LOCKED, MOST, SAFE
from tests.calls import ask, back, batch, begin, drop, end, give, last, more, run


class BeforeBegin(unittest.TestCase):
    def test_nothing_is_there(self):
        self.assertEqual(run(SAFE, LOCKED, FREE), [[1, 0], [0], []])

    def test_calls_on_batches_find_none(self):
        self.assertEqual(run(ask(1), give(1), back(1), end(1), drop(1)), [[-10]] * 5)

    def test_no_kind_is_in_range(self):
        self.assertEqual(run(more(0, 1), more(-1, 1)), [[-1], [-1]])

    def test_a_row_with_numbers_is_no_list_of_no_kinds(self):
        self.assertEqual(run(batch(1, [0]), SAFE), [[-2], [1, 0]])

    def test_a_batch_of_no_kinds_has_empty_lists(self):
        found = run(batch(4, []), batch(3, [], []), ask(4), give(3), back(3), SAFE, LOCKED, FREE, drop(4), end(4), SAFE)
        self.assertEqual(
            found,
            [[0], [0], [1], [1], [0, 0], [1, 2, 4, 3], [0], [], [-7], [0, 0], [1, 1, 3]],
        )

    def test_a_batch_of_no_kinds_is_gone_with_begin(self):
        self.assertEqual(run(batch(4, []), begin(2), SAFE, ask(4, 0)), [[0], [0], [1, 0], [-10]])

    def test_refused_begin_leaves_a_batch_of_no_kinds(self):
        self.assertEqual(run(batch(4, []), begin(), SAFE), [[0], [-2], [1, 1, 4]])


class Begin(unittest.TestCase):
    def test_how_many_kinds(self):
        for kinds in range(0, 9):
            totals = list(range(3, 3 + kinds))
            if 1 <= kinds <= 6:
                self.assertEqual(run(begin(*totals), FREE), [[0], totals])
            else:
                self.assertEqual(run(begin(*totals), FREE), [[-2], []])

    def test_a_row_as_long_as_there_may_be(self):
        self.assertEqual(run(begin(*([1] * 4000)), FREE), [[-2], []])

    def test_range_of_totals(self):
        self.assertEqual(run(begin(0, MOST), FREE), [[0], [0, MOST]])
        for wrong in (-1, MOST + 1, -FAR, FAR):
            self.assertEqual(run(begin(wrong), FREE), [[-2], []])
            self.assertEqual(run(begin(5, wrong), FREE), [[-2], []])

    def test_second_begin_starts_anew(self):
        found = run(begin(3), batch(1, [3]), ask(1, 2), begin(4, 5), FREE, SAFE, ask(1, 1, 1), batch(1, [4, 5]))
        self.assertEqual(found[3:], [[0], [4, 5], [1, 0], [-10], [0]])

    def test_second_begin_forgets_requests(self):
        found = run(
            begin(3), batch(1, [3]), batch(2, [3]), ask(1, 3), ask(2, 1), LOCKED,
            begin(3), batch(2, [3]), drop(2), LOCKED, end(2),
        )
        self.assertEqual(found[3:], [[1], [0], [0], [0], [0], [-7], [0], [0, 0]])

    def test_refused_begin_changes_nothing(self):
        found = run(begin(3), batch(1, [3]), ask(1, 2), begin(), FREE, begin(1, -1), FREE, SAFE)
        self.assertEqual(found[3:], [[-2], [1], [-2], [1], [1, 1, 1]])


class NewBatch(unittest.TestCase):
    def test_range_of_numbers(self):
        for number, answer in ((1, 0), (MOST, 0), (0, -1), (-1, -1), (MOST + 1, -1), (FAR, -1), (-FAR, -1)):
            self.assertEqual(last(begin(2), batch(number, [1])), [answer])

    def test_how_many_alternatives(self):
        for size, answer in ((0, -2), (1, 0), (2, 0), (4, 0), (5, -2), (199, -2)):
            self.assertEqual(last(begin(2), batch(7, *([[1]] * size))), [answer], size)

    def test_length_of_an_alternative(self):
        for row, answer in (([], -2), ([1], -2), ([1, 1], 0), ([1, 1, 1], -2), ([0] * 3990, -2)):
            self.assertEqual(last(begin(2, 2), batch(7, row)), [answer])
            self.assertEqual(last(begin(2, 2), batch(7, [2, 2], row)), [answer])

    def test_alternatives_are_within_the_totals(self):
        self.assertEqual(last(begin(2, 3), batch(7, [2, 3])), [0])
        self.assertEqual(last(begin(2, 3), batch(7, [0, 0])), [0])
        self.assertEqual(last(begin(2, 3), batch(7, [3, 3])), [-2])
        self.assertEqual(last(begin(2, 3), batch(7, [2, 4])), [-2])
        self.assertEqual(last(begin(2, 3), batch(7, [2, 3], [2, 3], [2, 3], [2, 4])), [-2])

    def test_range_of_an_alternatives_numbers(self):
        self.assertEqual(last(begin(MOST), batch(7, [MOST])), [0])
        for wrong in (-1, MOST + 1, FAR, -FAR):
            self.assertEqual(last(begin(MOST), batch(7, [wrong])), [-2])

    def test_alternatives_are_within_the_totals_even_when_held(self):
        self.assertEqual(last(begin(3), batch(1, [3]), ask(1, 3), batch(2, [3])), [0])
        self.assertEqual(last(begin(3), more(0, 1), batch(2, [4])), [0])

    def test_number_that_is_there(self):
        self.assertEqual(run(begin(3), batch(5, [3]), batch(5, [1]), SAFE)[2:], [[-3], [1, 1, 5]])

    def test_number_that_has_ended_comes_last(self):
        found = run(begin(3), batch(5, [3]), batch(6, [1]), end(5), batch(5, [1]), SAFE)
        self.assertEqual(found[3:], [[0, 0], [0], [1, 2, 6, 5]])

    def test_tenth_and_eleventh(self):
        ten = [batch(number, [1]) for number in range(1, 11)]
        found = run(begin(1), *ten, batch(11, [1]), SAFE, end(4), batch(11, [1]), batch(4, [1]), SAFE)
        self.assertEqual(found[10], [0])
        self.assertEqual(found[11:13], [[-6], [1, 10] + list(range(1, 11))])
        self.assertEqual(found[14:], [[0], [-6], [1, 10, 1, 2, 3, 5, 6, 7, 8, 9, 10, 11]])

    def test_which_refusal(self):
        ten = [batch(number, [1]) for number in range(1, 11)]
        self.assertEqual(last(begin(1), *ten, batch(0, [2])), [-1])
        self.assertEqual(last(begin(1), *ten, batch(0)), [-1])
        self.assertEqual(last(begin(1), *ten, batch(3, [2])), [-2])
        self.assertEqual(last(begin(1), *ten, batch(11)), [-2])
        self.assertEqual(last(begin(1), *ten, batch(3, [1])), [-3])
        self.assertEqual(last(begin(1), *ten, batch(11, [1])), [-6])


class Ask(unittest.TestCase):
    def test_granted(self):
        self.assertEqual(run(begin(5, 2), batch(1, [4, 2]), ask(1, 3, 1), FREE)[2:], [[1], [2, 1]])

    def test_granted_bit_by_bit(self):
        found = run(begin(5), batch(1, [4]), ask(1, 2), ask(1, 0), ask(1, 2), ask(1, 1), FREE)
        self.assertEqual(found[2:], [[1], [1], [1], [-4], [1]])

    def test_waits_for_what_is_not_free(self):
        found = run(begin(5), batch(1, [4]), batch(2, [4]), ask(1, 4), ask(2, 2), FREE, LOCKED, ask(2, 1))
        self.assertEqual(found[3:], [[1], [0], [1], [0], [-7]])

    def test_waits_for_what_is_not_safe(self):
        found = run(begin(4), batch(1, [4]), batch(2, [4]), ask(1, 2), ask(2, 1), FREE, SAFE)
        self.assertEqual(found[3:], [[1], [0], [2], [1, 2, 1, 2]])

    def test_nothing_is_refused_that_is_safe(self):
        # The first ends with what's free; the second then has all it needs.
        found = run(begin(10), batch(1, [8]), batch(2, [5]), batch(3, [9]), ask(1, 4), ask(2, 2), ask(3, 1), ask(3, 1))
        self.assertEqual(found[4:], [[1], [1], [1], [0]])

    def test_an_alternative_may_save_it(self):
        common = [begin(4, 1), batch(1, [4, 0]), batch(2, [4, 0], [1, 1])]
        self.assertEqual(run(*common, ask(1, 2, 0), ask(2, 1, 0))[3:], [[1], [1]])
        self.assertEqual(run(*common, ask(1, 2, 0), ask(2, 2, 0))[3:], [[1], [0]])

    def test_no_single_alternative(self):
        # Each kind alone is within some alternative, both together are within none.
        self.assertEqual(last(begin(2, 2), batch(1, [2, 0], [0, 2]), ask(1, 1, 1)), [-4])

    def test_alternative_that_no_longer_counts(self):
        found = run(begin(3, 3), batch(1, [3, 0], [1, 3]), ask(1, 2, 0), ask(1, 0, 1), back(1, 1, 0), ask(1, 0, 1))
        self.assertEqual(found[2:], [[1], [-4], [0, 0], [1]])

    def test_range_of_numbers(self):
        for number, answer in ((0, -1), (-1, -1), (MOST + 1, -1), (FAR, -1), (-FAR, -1), (1, -10), (MOST, -10)):
            self.assertEqual(last(begin(2), batch(7, [1]), ask(number, 1)), [answer])
        self.assertEqual(last(begin(2), batch(MOST, [1]), ask(MOST, 1)), [1])

    def test_range_of_things(self):
        self.assertEqual(last(begin(MOST), batch(7, [MOST]), ask(7, MOST)), [1])
        self.assertEqual(last(begin(MOST), batch(7, [MOST]), ask(7, 0)), [1])
        for wrong in ([-1], [MOST + 1], [FAR], [-FAR], [], [1, 1], [0] * 3990):
            self.assertEqual(last(begin(MOST), batch(7, [MOST]), ask(7, *wrong)), [-2])

    def test_more_than_the_totals_is_within_no_alternative(self):
        self.assertEqual(last(begin(2), batch(7, [2]), ask(7, MOST)), [-4])

    def test_which_refusal(self):
        waits = [begin(2), batch(1, [2]), batch(2, [2]), ask(1, 2), ask(2, 1)]
        self.assertEqual(last(*waits, ask(0)), [-1])
        self.assertEqual(last(*waits, ask(3)), [-10])
        self.assertEqual(last(*waits, ask(2, -1)), [-2])
        self.assertEqual(last(*waits, ask(2, 3)), [-7])
        self.assertEqual(last(*waits, ask(1, 1)), [-4])

    def test_request_of_nothing_waits_in_an_unsafe_state(self):
        unsafe = [begin(2), batch(1, [2]), batch(2, [2]), give(1, 1), give(2, 1)]
        self.assertEqual(run(*unsafe, ask(1, 0), drop(1))[3:], [[1], [0], [0], [0]])

    def test_nothing_is_granted_in_an_unsafe_state(self):
        unsafe = [begin(4), batch(1, [3]), batch(2, [4]), batch(3, [4]), give(2, 2), give(3, 1)]
        self.assertEqual(run(*unsafe, ask(1, 1))[4:], [[1], [0], [0]])


class Give(unittest.TestCase):
    def test_safe_and_unsafe(self):
        found = run(begin(4), batch(1, [4]), batch(2, [4]), give(1, 2), FREE, give(2, 1), FREE, SAFE)
        self.assertEqual(found[3:], [[1], [2], [0], [1], [0, 2, 1, 2]])

    def test_nothing_given_tells_whether_it_is_safe(self):
        unsafe = [begin(2), batch(1, [2]), batch(2, [2]), give(1, 1), give(2, 1)]
        self.assertEqual(last(*unsafe, give(1, 0)), [0])
        self.assertEqual(last(begin(2), batch(1, [2]), give(1, 0)), [1])

    def test_ranges(self):
        for number, answer in ((0, -1), (MOST + 1, -1), (-FAR, -1), (FAR, -1), (1, -10), (MOST, -10)):
            self.assertEqual(last(begin(2), batch(7, [1]), give(number, 1)), [answer])
        for wrong in ([-1], [MOST + 1], [FAR], [], [1, 1]):
            self.assertEqual(last(begin(MOST), batch(7, [MOST]), give(7, *wrong)), [-2])
        self.assertEqual(run(begin(MOST), batch(1, [MOST]), give(1, MOST), FREE)[2:], [[1], [0]])

    def test_which_refusal(self):
        common = [begin(3), batch(1, [3]), batch(2, [2]), give(1, 2)]
        self.assertEqual(last(*common, give(0)), [-1])
        self.assertEqual(last(*common, give(3)), [-10])
        self.assertEqual(last(*common, give(2, -1)), [-2])
        self.assertEqual(last(*common, give(2, 3)), [-4])
        self.assertEqual(last(*common, give(2, 2)), [-5])
        self.assertEqual(last(*common, give(2, 1)), [0])

    def test_given_while_it_waits(self):
        common = [begin(4), batch(1, [4]), batch(2, [4]), ask(1, 3), ask(2, 1), give(2, 1)]
        found = run(*common, FREE, LOCKED, SAFE, ask(2, 0), drop(2), drop(2))
        self.assertEqual(found[3:], [[1], [0], [0], [0], [0], [0, 2, 1, 2], [-7], [0], [-7]])

    def test_given_while_it_waits_still_gets_its_request(self):
        found = run(begin(4), batch(1, [4]), batch(2, [3]), ask(1, 3), ask(2, 2), give(2, 1), end(1), FREE, ask(2, 0))
        self.assertEqual(found[3:], [[1], [0], [0], [0, 1, 2], [1], [1]])

    def test_request_that_no_alternative_holds_any_more_is_not_granted(self):
        common = [begin(5), batch(1, [5]), batch(2, [3]), ask(1, 3), ask(2, 3), give(2, 2)]
        found = run(*common, end(1), FREE, SAFE, more(0, 9), back(2, 1), back(2, 1))
        self.assertEqual(found[3:], [[1], [0], [0], [0, 0], [3], [1, 1, 2], [0, 0], [0, 0], [0, 1, 2]])


class Drop(unittest.TestCase):
    def test_waits_no_longer(self):
        common = [begin(2), batch(1, [2]), batch(2, [2]), ask(1, 2), ask(2, 1)]
        self.assertEqual(run(*common, drop(2), end(1), FREE)[5:], [[0], [0, 0], [2]])

    def test_may_ask_again_and_stands_behind(self):
        common = [begin(3), batch(1, [3]), batch(2, [3]), batch(3, [3]), ask(1, 3), ask(2, 1), ask(3, 1)]
        self.assertEqual(last(*common, end(1)), [0, 1, 2])
        self.assertEqual(last(*common, drop(2), ask(2, 1), end(1)), [0, 1, 3])

    def test_refusals(self):
        common = [begin(2), batch(1, [2])]
        for number, answer in ((0, -1), (-FAR, -1), (MOST + 1, -1), (FAR, -1), (2, -10), (MOST, -10), (1, -7)):
            self.assertEqual(last(*common, drop(number)), [answer])


class More(unittest.TestCase):
    def test_there_are_more(self):
        self.assertEqual(run(begin(2, 3), more(1, 4), FREE, more(0, 1), FREE)[1:], [[0, 0], [2, 7], [0, 0], [3, 7]])

    def test_held_things_stay_held(self):
        self.assertEqual(run(begin(2), batch(1, [2]), ask(1, 2), more(0, 5), FREE)[3:], [[0, 0], [5]])

    def test_range_of_kinds(self):
        for j, answer in ((-1, [-1]), (0, [0, 0]), (1, [0, 0]), (2, [-1]), (FAR, [-1]), (-FAR, [-1])):
            self.assertEqual(last(begin(2, 2), more(j, 1)), answer)

    def test_range_of_copies(self):
        for n, answer in ((0, [-1]), (-1, [-1]), (1, [0, 0]), (MOST, [0, 0]), (MOST + 1, [-1]), (FAR, [-1])):
            self.assertEqual(last(begin(0), more(0, n)), answer)

    def test_copies_up_to_the_most(self):
        self.assertEqual(run(begin(MOST - 1), more(0, 1), FREE, more(0, 1), FREE)[1:], [[0, 0], [MOST], [-6], [MOST]])
        self.assertEqual(run(begin(1, 5), more(0, MOST), FREE)[1:], [[-6], [1, 5]])

    def test_copies_held_count_too(self):
        self.assertEqual(last(begin(MOST), batch(1, [MOST]), ask(1, MOST), more(0, 1)), [-6])

    def test_which_refusal(self):
        self.assertEqual(last(begin(MOST), more(1, MOST)), [-1])
        self.assertEqual(last(begin(MOST), more(0, MOST + 1)), [-1])


if __name__ == "__main__":
    unittest.main()
