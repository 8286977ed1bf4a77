"""The numbers of requests that have waited: 0, 1, ... in the order in which they came since begin."""

import unittest

from safegrants.reading import read_calls
from safegrants.state import State
from safegrants.works import answer_call
from tests.calls import MOST, ask, batch, begin, drop, end, give, joined


def numbers_after(*calls):
    """Each waiting batch's number with its request's."""
    state = State()
    for one in read_calls(joined(calls)):
        answer_call(state, one)
    return [(kept.number, kept.request.number) for kept in state.batches if kept.request is not None]


FULL = [begin(4), batch(9, [4]), batch(1, [4]), batch(2, [4]), batch(3, [4]), ask(9, 4)]


class RequestsNumbers(unittest.TestCase):
    def test_in_the_order_in_which_they_came(self):
        self.assertEqual(numbers_after(*FULL), [])
        self.assertEqual(numbers_after(*FULL, ask(2, 1), ask(1, 1), ask(3, 1)), [(1, 1), (2, 0), (3, 2)])

    def test_what_is_granted_at_once_or_refused_has_none(self):
        common = [begin(4), batch(1, [4]), batch(2, [4]), ask(1, 1), ask(1, 1), ask(1, 9), ask(2, MOST + 1), ask(2, 1)]
        self.assertEqual(numbers_after(*common), [(2, 0)])
        self.assertEqual(numbers_after(*common, ask(2, 1), ask(1, 2), give(1, 1)), [(2, 0)])

    def test_no_number_comes_twice(self):
        self.assertEqual(numbers_after(*FULL, ask(2, 1), drop(2), ask(2, 1)), [(2, 1)])
        self.assertEqual(numbers_after(*FULL, ask(2, 1), ask(1, 1), end(2), ask(3, 1)), [(1, 1), (3, 2)])
        self.assertEqual(numbers_after(*FULL, ask(2, 4), end(9), ask(1, 1)), [(1, 1)])

    def test_begin_counts_anew(self):
        self.assertEqual(numbers_after(*FULL, ask(2, 1), ask(1, 1), *FULL, ask(3, 1)), [(3, 0)])

    def test_refused_begin_counts_on(self):
        self.assertEqual(numbers_after(*FULL, ask(2, 1), begin(), ask(3, 1)), [(2, 0), (3, 1)])


if __name__ == "__main__":
    unittest.main()
