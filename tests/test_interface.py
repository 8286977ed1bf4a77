"""safegrants.works.answers: how calls are read, how answers are told, what is left alone."""

import contextlib
import inspect
import io
import sys
import unittest

import safegrants.works
from safegrants.works import answers
from tests.calls import FAR, FREE, LOCKED, MOST, ORDERS, SAFE, TOLD, VICTIMS
from tests.calls import ask, back, batch, begin, blocks, call, cheapest, check, could, drop, end, give, joined, lack
from tests.calls import more, order, room, run

LONG = [begin(3, 1), batch(1, [3, 1], [2, 0]), batch(2, [3, 0]), ask(1, 1, 1), ask(2, 3, 0), give(2, 1, 0), FREE, SAFE]
ASKED = [could(1, 1, 0), could(2, 1, 0), could(2, 0, 1), room(1, 0), room(2, 0), lack(0), lack(1), VICTIMS]
ASKED += [cheapest(1, 3, 2, 1), ORDERS, order(0), order(1), check(1, 2), check(2, 1), blocks(1, 2), blocks(2), TOLD]
ASKED += [could(0), room(1, 9), lack(-1), cheapest(1), order(-1), check(3), blocks(2, 2)]
LONG += ASKED
LONG += [LOCKED, back(2, 1, 0), drop(2), *ASKED, ask(2, 3, 0), more(1, 2), *ASKED, end(1), SAFE, FREE]


class Watched(list):
    """A list that tells of each change by an error, so that no change for a while goes unseen."""

    def fail(self, *args, **kwargs):
        raise AssertionError("what is handed in was changed")

    append = extend = insert = pop = remove = clear = sort = reverse = fail
    __setitem__ = __delitem__ = __iadd__ = __imul__ = fail


class HowItIsRead(unittest.TestCase):
    def test_written_out(self):
        calls = [
            0, 0, 1, 2, 3, 1,
            1, 1, 8, 2, 2, 3, 0, 2, 1, 1,
            1, 1, 5, 1, 2, 2, 1,
            2, 1, 8, 1, 2, 1, 0,
            3, 1, 5, 1, 2, 1, 0,
            2, 1, 5, 1, 2, 1, 1,
            8, 0, 0,
            9, 0, 0,
            10, 0, 0,
            7, 2, 0, 1, 0,
            6, 1, 5, 0,
            6, 1, 8, 0,
            4, 1, 8, 1, 2, 1, 0,
            5, 1, 5, 0,
            10, 0, 0,
        ]
        told = [
            1, 0,
            1, 0,
            1, 0,
            1, 1,
            1, 1,
            1, 1,
            4, 1, 2, 5, 8,
            1, 0,
            2, 0, 0,
            2, 0, 0,
            1, -7,
            1, -7,
            2, 0, 0,
            2, 0, 0,
            2, 4, 1,
        ]
        self.assertEqual(answers(calls), told)

    def test_questions_written_out(self):
        calls = [
            0, 0, 1, 2, 4, 1,
            1, 1, 8, 2, 2, 4, 0, 2, 3, 1,
            1, 1, 5, 1, 2, 4, 0,
            3, 1, 8, 1, 2, 2, 0,
            2, 1, 5, 1, 2, 3, 0,
            11, 1, 5, 1, 2, 1, 0,
            11, 1, 8, 1, 2, 1, 1,
            12, 2, 8, 0, 0,
            13, 1, 0, 0,
            14, 0, 0,
            15, 0, 1, 2, 8, 3,
            16, 0, 0,
            17, 1, 0, 0,
            18, 0, 1, 2, 8, 5,
            18, 0, 1, 1, 5,
            19, 0, 1, 0,
            20, 0, 0,
            3, 1, 5, 1, 2, 2, 0,
            12, 2, 8, 0, 0,
            13, 1, 0, 0,
            13, 1, 1, 0,
            14, 0, 0,
            15, 0, 1, 4, 8, 3, 5, 2,
            16, 0, 0,
            17, 1, 0, 0,
            19, 0, 1, 2, 5, 8,
        ]
        told = [
            1, 0,
            1, 0,
            1, 0,
            1, 1,
            1, 0,
            1, 0,
            1, 0,
            1, 2,
            2, 1, 0,
            1, 0,
            2, 0, 0,
            1, 1,
            2, 8, 5,
            2, 0, 2,
            2, 1, 5,
            1, 0,
            23, 2, 4, 1, 2, 8, 2, 4, 0, 3, 1, 2, 0, 0, 5, 1, 4, 0, 0, 0, 1, 0, 3, 0,
            1, 0,
            1, -8,
            2, 1, 1,
            1, 0,
            2, 1, 5,
            3, 2, 1, 5,
            1, 0,
            1, -10,
            1, 1,
        ]
        self.assertEqual(answers(calls), told)

    def test_one_call(self):
        self.assertEqual(answers(SAFE), [2, 1, 0])
        self.assertEqual(answers(LOCKED), [1, 0])

    def test_an_answer_without_numbers(self):
        self.assertEqual(answers(FREE), [0])
        self.assertEqual(answers(FREE + SAFE + FREE), [0, 2, 1, 0, 0])

    def test_empty_rows_and_no_rows(self):
        self.assertEqual(answers([0, 0, 1, 0, 1, 1, 5, 0, 1, 1, 5, 1, 0, 8, 0, 0]), [1, -2, 1, -2, 1, 0, 3, 1, 1, 5])

    def test_a_row_that_looks_like_calls(self):
        found = run(begin(8, 0, 0, 9, 0, 0, 10, 0, 0), SAFE, begin(8, 0, 0, 9, 0, 0), FREE)
        self.assertEqual(found, [[-2], [1, 0], [0], [8, 0, 0, 9, 0, 0]])

    def test_other_forms_are_refused_and_change_nothing(self):
        common = [begin(3), batch(1, [3]), ask(1, 1)]
        wrong = [call(21), call(-1), call(FAR), call(8, (1,)), call(0, (), ()), call(0, (1,), [[1]])]
        wrong += [call(0, (), [[1], [1]]), call(1, (), [[1]]), call(1, (2, 2), [[1]]), call(2, (1,))]
        wrong += [call(2, (), [[1]])]
        wrong += [call(3, (1,), [[1], [1]]), call(4, (1, 1), [[1]]), call(5), call(5, (1,), [[]]), call(6, (1, 1))]
        wrong += [call(7, (0,)), call(7, (0, 1), [[]]), call(9, (0,)), call(10, (), [[]])]
        wrong += [call(11, (1,)), call(11, (), [[1]]), call(11, (1,), [[1], [1]]), call(12, (1,)), call(12, (1, 0), [[]])]
        wrong += [call(13), call(13, (0, 0)), call(13, (0,), [[]]), call(14, (0,)), call(14, (), [[]]), call(15)]
        wrong += [call(15, (1,), [[]]), call(15, (), [[], []]), call(16, (0,)), call(17), call(17, (0,), [[]])]
        wrong += [call(18), call(18, (1,), [[]]), call(19), call(19, (), [[], []]), call(20, (0,)), call(20, (), [[]])]
        found = run(*common, *wrong, FREE, SAFE)
        self.assertEqual(found[3:], [[-9]] * len(wrong) + [[2], [1, 1, 1]])


class WhatIsLeftAlone(unittest.TestCase):
    def test_the_list_is_the_same_behind_the_call(self):
        calls = joined(LONG)
        before = list(calls)
        answers(calls)
        self.assertEqual(calls, before)

    def test_the_list_is_not_changed_for_a_while(self):
        calls = Watched(joined(LONG))
        self.assertEqual(answers(calls), answers(joined(LONG)))
        self.assertEqual(list(calls), joined(LONG))

    def test_the_answers_are_a_list_of_their_own(self):
        calls = joined(LONG)
        first = answers(calls)
        kept = list(first)
        first.clear()
        self.assertEqual(answers(calls), kept)

    def test_asked_twice_and_with_others_between(self):
        calls = joined(LONG)
        first = answers(calls)
        self.assertEqual(answers(calls), first)
        self.assertEqual(answers(SAFE + FREE), [2, 1, 0, 0])
        answers(joined([begin(9, 9), batch(1, [9, 9]), batch(2, [1, 1]), ask(1, 9, 9), ask(2, 1, 1)]))
        self.assertEqual(answers(calls), first)

    def test_nothing_is_printed_or_read(self):
        told = io.StringIO()
        kept = sys.stdin
        sys.stdin = None
        try:
            with contextlib.redirect_stdout(told), contextlib.redirect_stderr(told):
                answers(joined(LONG))
        finally:
            sys.stdin = kept
        self.assertEqual(told.getvalue(), "")

    def test_nothing_is_imported(self):
        before = set(sys.modules)
        answers(joined(LONG))
        self.assertEqual(set(sys.modules), before)


class KindsOfAnswers(unittest.TestCase):
    def test_one_list_of_whole_numbers(self):
        told = answers(joined(LONG))
        self.assertIs(type(told), list)
        for number in told:
            self.assertIs(type(number), int)

    def test_name_and_argument(self):
        self.assertEqual(safegrants.works.answers.__module__, "safegrants.works")
        self.assertEqual(str(inspect.signature(safegrants.works.answers)), "(calls)")


class AsLongAsTheyMayBe(unittest.TestCase):
    def setUp(self):
        self.limit = sys.getrecursionlimit()

    def tearDown(self):
        sys.setrecursionlimit(self.limit)

    def shallow(self, calls):
        """The answers with only a few calls within one another allowed."""
        sys.setrecursionlimit(len(inspect.stack(0)) + 40)
        try:
            return answers(calls)
        finally:
            sys.setrecursionlimit(self.limit)

    def test_two_hundred_calls(self):
        self.assertEqual(self.shallow(SAFE * 200), [2, 1, 0] * 200)

    def test_many_short_alternatives(self):
        rows = [[1, 1]] * 199
        told = self.shallow(joined([begin(1, 1)] + [batch(k, *rows) for k in range(1, 11)] + [SAFE]))
        self.assertEqual(told, [1, 0] + [1, -2] * 10 + [2, 1, 0])

    def test_long_rows(self):
        for wrong in (ask, give, back):
            told = self.shallow(joined([begin(1), batch(1, [1]), wrong(1, *([1] * 3998)), SAFE]))
            self.assertEqual(told, [1, 0, 1, 0, 1, -2, 3, 1, 1, 1])

    def test_numbers_as_great_as_they_may_be(self):
        told = run(begin(MOST), batch(MOST, [MOST]), ask(MOST, MOST), ask(MOST, FAR), ask(FAR, -FAR), more(FAR, FAR))
        self.assertEqual(told, [[0], [0], [1], [-2], [-1], [-1]])

    def test_full_works_all_the_time(self):
        totals = [MOST] * 6
        comes = [batch(k, totals, totals, totals, totals) for k in range(1, 11)]
        asks = [ask(k, 1, 0, 0, 0, 0, 0) for k in range(1, 11)]
        turns = [more(0, 1), back(1, 1, 0, 0, 0, 0, 0), ask(1, 1, 0, 0, 0, 0, 0)] * 50
        found = run(begin(*totals), *comes, *asks, *turns, SAFE)
        self.assertEqual(found[11:21], [[1]] + [[0]] * 9)
        self.assertEqual(found[21:24], [[-6], [0, 1, 2], [0]])
        self.assertEqual(found[24:27], [[-6], [-4], [-7]])

    def test_long_rows_of_questions(self):
        for place, numbers in ((11, (1,)), (15, ()), (18, ()), (19, ())):
            told = self.shallow(joined([begin(1), batch(1, [1]), call(place, numbers, [[1] * 3998]), SAFE]))
            self.assertEqual(told, [1, 0, 1, 0, 1, -2, 3, 1, 1, 1])

    def test_questions_on_a_full_works(self):
        totals = [MOST] * 6
        comes = [batch(k, totals, totals, totals, totals) for k in range(1, 11)]
        gives = [give(k, 0, 0, 0, 0, 0, 1) for k in range(1, 11)]
        costs = [number for k in range(1, 11) for number in (k, MOST)]
        named = range(1, 11)
        asked = [could(1, *totals), could(1, 1, 0, 0, 0, 0, 0), room(1, 5), lack(5), lack(0), VICTIMS, cheapest(*costs)]
        asked += [ORDERS, order(0), check(*named), blocks(*named)]
        told = self.shallow(joined([begin(*totals), *comes, *gives, *asked]))
        stuck = [10, *named]
        wanted = [[0]] * 11 + [[1]] + [[0]] * 9 + [[1], [3, *stuck], [-8], [1, 9], [0], [9, *range(1, 10)]]
        wanted += [[9 * MOST, 9, *range(1, 10)], [0], [-10], [1, 1], [1]]
        self.assertEqual(told, joined([len(answer), *answer] for answer in wanted))

    def test_orders_of_ten_over_and_over(self):
        comes = [batch(k, [1], [1], [1], [1]) for k in range(1, 11)]
        told = self.shallow(joined([begin(1), *comes, *[ORDERS] * 20, *[order(3628799)] * 20]))
        self.assertEqual(told, [1, 0] * 11 + [1, 3628800] * 20 + [10, 10, 9, 8, 7, 6, 5, 4, 3, 2, 1] * 20)


if __name__ == "__main__":
    unittest.main()
