"""Many histories, made from written seeds: against the second works, and what must always hold."""

import random
import unittest

from tests.calls import FAR, MOST, call, joined, run, split
from tests.reference import Works, do, reference_answers

from safegrants.works import answers

# How often each place comes: without give, with it, and with little that sets things free.
GRANTED = [1] * 3 + [2] * 5 + [4] * 2 + [5, 6, 7, 8, 9, 10]
BY_HAND = GRANTED + [3] * 3
CROWDED = [1] * 3 + [2] * 8 + [3] * 8 + [8, 9, 9, 9, 10] + [4, 5, 6, 7]
ALL = BY_HAND + list(range(11, 21))

QUESTIONS = [(8, (), ()), (9, (), ()), (10, (), ()), (20, (), ())]
WATCHED = len(QUESTIONS) + 1


def odd(chance, number, odds):
    """Mostly the number, now and then one at a range's end or beyond it."""
    if chance.random() < odds:
        return chance.choice([-FAR, -1, 0, 1, MOST, MOST + 1, FAR])
    return number


def row(chance, most, odds):
    """A list of kinds with numbers up to these, now and then of a wrong length or with an odd number."""
    things = [odd(chance, chance.randint(0, top), odds) for top in most]
    if chance.random() < odds:
        things = things[1:] if chance.random() < 0.5 else things + [0]
    return things


def one_call(chance, place, totals, odds, batches):
    number = odd(chance, chance.randint(1, batches), odds)
    if place == 0:
        return (0, (), [row(chance, totals, odds) if chance.random() < odds else totals])
    if place == 1:
        rows = [row(chance, totals, odds) for k in range(chance.choice([1, 1, 2, 3, 4]))]
        return (1, (number,), rows if chance.random() >= odds else rows * chance.choice([0, 5]))
    if place in (2, 3, 4, 11):
        return (place, (number,), [row(chance, [min(top, 2) for top in totals], odds)])
    if place in (5, 6):
        return (place, (number,), ())
    if place == 7:
        j = odd(chance, chance.randint(0, max(len(totals) - 1, 0)), odds)
        return (7, (j, odd(chance, chance.randint(1, 2), odds)), ())
    return one_question(chance, place, totals, odds, batches)


def one_question(chance, place, totals, odds, batches):
    number = odd(chance, chance.randint(1, batches), odds)
    j = odd(chance, chance.randint(0, max(len(totals) - 1, 0)), odds)
    names = [odd(chance, name, odds) for name in chance.sample(range(1, batches + 1), chance.randint(0, 3))]
    if place == 12:
        return (12, (number, j), ())
    if place == 13:
        return (13, (j,), ())
    if place == 15:
        return (15, (), [joined([name, odd(chance, chance.randint(0, 3), odds)] for name in names)])
    if place == 17:
        return (17, (odd(chance, chance.randint(0, 8), odds),), ())
    if place in (18, 19):
        return (place, (), [names])
    return (place, (), ())


def works_after(calls):
    works = Works()
    for one in calls:
        do(works, one)
    return works


def questions_behind(calls):
    """All sorts of questions on the batches and kinds that are there behind these calls."""
    works = works_after(calls)
    chance = random.Random(str(calls))
    there = list(works.held)
    kinds = range(len(works.totals))
    asked = [(place, (), ()) for place in (8, 9, 10, 14, 16, 20)] + [(13, (j,), ()) for j in kinds]
    for number in there:
        asked += [(12, (number, j), ()) for j in kinds]
        asked += [(11, (number,), [row(chance, works.totals, 0)]), (11, (number,), [row(chance, works.free(), 0)])]
    for turn in range(4):
        names = chance.sample(there, chance.randint(0, len(there)))
        asked.append((15, (), [joined([name, chance.randint(0, 2)] for name in names)]))
        asked += [(18, (), [names]), (18, (), [chance.sample(there, len(there))]), (19, (), [names])]
    asked += [(19, (), [works.stuck()]), (19, (), [there])]
    number_of_orders = works.orders((), ())[0]
    for k in (0, 1, number_of_orders // 2, number_of_orders - 1, number_of_orders):
        asked.append((17, (k,), ()))
    return asked


def history(seed, size, odds, places, batches=6):
    """Calls on a small works; odds tells how many of them are wrong."""
    chance = random.Random(seed)
    totals = []
    calls = []
    while len(calls) < size:
        place = chance.choice(places)
        if not calls and chance.random() < 0.9 or chance.random() < 0.02:
            place = 0
            totals = [chance.randint(0, 6) for k in range(chance.randint(1, 3))]
        calls.append(one_call(chance, place, totals, odds, batches))
    return calls


def stalled(seed):
    """Batches that hold nearly all there is and ask for more, so that many of them wait for each other."""
    chance = random.Random(seed)
    totals = [chance.randint(1, 4) for k in range(chance.randint(1, 3))]
    batches = list(range(1, chance.randint(2, 5) + 1))
    calls = [(0, (), [totals])]
    calls += [(1, (number,), [totals]) for number in batches]
    calls += [(3, (number,), [row(chance, [1] * len(totals), 0)]) for number in batches * 2]
    chance.shuffle(batches)
    calls += [(2, (number,), [row(chance, totals, 0)]) for number in batches * 3]
    for k in range(4):
        calls += QUESTIONS
        calls.append(one_call(chance, chance.choice([3, 4, 4, 5, 6, 7]), totals, 0, len(batches)))
    return calls + QUESTIONS


def hard_to_end(chance, numbers):
    """Batches that were given all sorts of things by hand; the nearer the claims to the totals, the more are stuck."""
    totals = [chance.randint(2, 9) for k in range(chance.randint(1, 4))]
    spared = chance.choice([1, 3, 9])
    given = chance.choice([1, 1, 2, 3])
    calls = [(0, (), [totals])]
    for number in numbers:
        rows = [[total - min(total, chance.randint(0, spared)) for total in totals] for k in range(chance.randint(1, 3))]
        calls.append((1, (number,), rows))
    for number in numbers * 4:
        calls.append((3, (number,), [row(chance, [given] * len(totals), 0)]))
    calls += [(2, (number,), [row(chance, [1] * len(totals), 0)]) for number in chance.sample(numbers, len(numbers))]
    return calls


def scattered(seed):
    """Some batches of scattered numbers, that are hard to end."""
    chance = random.Random(seed)
    return hard_to_end(chance, chance.sample(range(1, 100), chance.randint(1, 6)))


def tangled(seed, odds):
    """Calls of all places on batches that are hard to end; odds tells how many of them are wrong."""
    chance = random.Random(seed)
    calls = hard_to_end(chance, chance.sample(range(1, 6), chance.randint(3, 5)))
    totals = calls[0][2][0]
    return calls + [one_call(chance, chance.choice(ALL), totals, odds, 5) for k in range(60)]


def run_history(calls):
    return run(*[call(*one) for one in calls])


class AgainstTheReference(unittest.TestCase):
    def compare(self, seeds, size, odds, places, batches=6):
        for seed in seeds:
            self.compare_one(history(seed, size, odds, places, batches))

    def compare_one(self, calls):
        found = run_history(calls)
        wanted = reference_answers(calls)
        for k in range(len(calls)):
            self.assertEqual(found[k], wanted[k], calls[:k + 1])

    def test_granted_alone(self):
        self.compare(range(0, 120), 60, 0.0, GRANTED)

    def test_with_things_given_by_hand(self):
        self.compare(range(1000, 1150), 60, 0.0, BY_HAND)

    def test_crowded(self):
        self.compare(range(1500, 1700), 80, 0.0, CROWDED)

    def test_stalled(self):
        for seed in range(1800, 2000):
            self.compare_one(stalled(seed))

    def test_with_wrong_calls(self):
        self.compare(range(2000, 2150), 60, 0.08, BY_HAND)
        self.compare(range(2500, 2600), 80, 0.04, CROWDED)

    def test_with_many_batches(self):
        self.compare(range(3000, 3020), 120, 0.01, [1] * 20 + CROWDED, 12)

    def test_long_ones(self):
        self.compare(range(4000, 4010), 200, 0.02, BY_HAND)

    def test_questions_mixed_in(self):
        self.compare(range(10000, 10150), 80, 0.0, ALL, 5)
        self.compare(range(10200, 10250), 80, 0.08, ALL, 5)
        for seed in range(10300, 10400):
            self.compare_one(tangled(seed, 0.0))
            self.compare_one(tangled(seed, 0.08))

    def test_all_questions_on_one_state(self):
        for calls in self.states():
            self.compare_one(calls + questions_behind(calls))

    def states(self):
        """Histories that end in a state on which all questions are asked."""
        found = [history(seed, 40, 0.0, CROWDED, 6) for seed in range(11000, 11120)]
        found += [history(seed, 40, 0.0, GRANTED, 6) for seed in range(11200, 11260)]
        found += [stalled(seed)[:-len(QUESTIONS)] for seed in range(11300, 11380)]
        return found + [scattered(seed) for seed in range(11400, 11480)]

    def test_the_questions_hold_all_that_is_asked_of_them(self):
        met = {}
        for calls in self.states():
            asked = questions_behind(calls)
            for one, answer in zip(asked, run_history(calls + asked)[len(calls):]):
                place, first = one[0], answer[0] if answer else None
                met[(place, first)] = True
                if place in (11, 13, 15) and len(answer) > 1:
                    met[(place, first, "more than none" if answer[1] > 0 else "none")] = True
        for wanted in [
            (11, 0), (11, 1), (11, 2), (11, 3), (12, 0), (12, 1), (12, 2), (12, -8), (13, 0), (13, 1, "none"),
            (13, 1, "more than none"), (14, 0), (14, 1), (14, 2), (14, 3), (15, 0, "none"), (15, 0, "more than none"),
            (15, 1, "more than none"), (15, 2, "more than none"), (16, 0), (16, 1), (16, 2), (16, 120), (17, -10),
            (18, 0), (18, 1), (19, 0), (19, 1),
        ]:
            self.assertIn(wanted, met)

    def test_wrong_questions_hold_all_refusals(self):
        made = [tangled(seed, 0.08) for seed in range(10300, 10400)]
        met = {}
        for calls in made:
            for one, answer in zip(calls, run_history(calls)):
                met[(one[0], answer[0] if answer else None)] = True
        for wanted in [
            (11, -1), (11, -10), (11, -2), (12, -1), (12, -10), (12, -8), (13, -1), (15, -2), (17, -1), (17, -10),
            (18, -2), (19, -2),
        ]:
            self.assertIn(wanted, met)

    def test_the_histories_hold_all_that_is_asked_of_them(self):
        made = [history(seed, 60, 0.08, BY_HAND) for seed in range(2000, 2150)]
        made += [history(seed, 80, 0.0, CROWDED) for seed in range(1500, 1700)]
        made += [history(seed, 120, 0.01, [1] * 20 + CROWDED, 12) for seed in range(3000, 3020)]
        made += [stalled(seed) for seed in range(1800, 2000)]
        met = {}
        for calls in made:
            for one, answer in zip(calls, run_history(calls)):
                met[(one[0], answer[0] if answer else None)] = True
                if one[0] in (4, 5, 7) and answer[0] == 0:
                    met[("granted", one[0], answer[1])] = True
        for wanted in [
            (0, -2), (1, -1), (1, -2), (1, -3), (1, -6), (2, -1), (2, -10), (2, -2), (2, -7), (2, -4), (2, 0), (2, 1),
            (3, -1), (3, -10), (3, -2), (3, -4), (3, -5), (3, 0), (3, 1), (4, -1), (4, -10), (4, -2), (4, -4), (4, 0),
            (5, -1), (5, -10), (5, 0), (6, -1), (6, -10), (6, -7), (6, 0), (7, -1), (7, -6), (7, 0), (8, 0), (8, 1),
            (9, 0), (9, 1), (9, 2), (9, 3), (9, 4),
            ("granted", 4, 1), ("granted", 5, 1), ("granted", 5, 2), ("granted", 7, 1), ("granted", 7, 2),
        ]:
            self.assertIn(wanted, met)


class AllCanAlwaysEnd(unittest.TestCase):
    def test_safe_as_long_as_nothing_is_given_by_hand(self):
        for seed in range(5000, 5060):
            calls = history(seed, 60, 0.05, GRANTED)
            watched = []
            for one in calls:
                watched += [one, (8, (), ())]
            for answer in run_history(watched)[1::2]:
                self.assertEqual(answer[0], 1)


class RefusedCallsChangeNothing(unittest.TestCase):
    def test_left_out_the_rest_answers_the_same(self):
        for seed in range(6000, 6080):
            calls = history(seed, 60, 0.1, BY_HAND)
            found = run_history(calls)
            taken = [k for k in range(len(calls)) if not (found[k] and found[k][0] < 0)]
            self.assertLess(len(taken), len(calls))
            self.assertEqual(run_history([calls[k] for k in taken]), [found[k] for k in taken])

    def test_questions_before_and_behind_answer_the_same(self):
        for seed in range(7000, 7060):
            calls = history(seed, 60, 0.1, BY_HAND)
            watched = list(QUESTIONS)
            for one in calls:
                watched += [one] + QUESTIONS
            found = run_history(watched)
            for k in range(len(QUESTIONS), len(watched), WATCHED):
                if found[k] and found[k][0] < 0:
                    self.assertEqual(found[k - len(QUESTIONS):k], found[k + 1:k + WATCHED])


class QuestionsChangeNothing(unittest.TestCase):
    def test_asked_in_between_the_rest_answers_the_same(self):
        for seed in range(8000, 8040):
            calls = history(seed, 50, 0.02, BY_HAND)
            watched = []
            for one in calls:
                watched += QUESTIONS + [one]
            self.assertEqual(run_history(watched)[len(QUESTIONS)::WATCHED], run_history(calls))

    def test_without_them_the_rest_answers_the_same(self):
        for seed in range(8100, 8180):
            calls = history(seed, 100, 0.05, ALL, 5)
            found = run_history(calls)
            changes = [k for k in range(len(calls)) if calls[k][0] <= 7]
            self.assertLess(len(changes), len(calls))
            self.assertEqual(run_history([calls[k] for k in changes]), [found[k] for k in changes])

    def test_all_is_told_the_same_before_and_behind_each(self):
        told = (20, (), ())
        for seed in range(8200, 8260):
            calls = scattered(seed)
            watched = [told]
            for one in questions_behind(calls):
                watched += [one, told]
            found = run_history(calls + watched)[len(calls)::2]
            self.assertEqual(found, [found[0]] * len(found))


class EachCallAnswersByWhatCameBefore(unittest.TestCase):
    def test_fewer_calls_answer_the_same(self):
        calls = [call(*one) for one in history(9000, 80, 0.02, ALL)]
        whole = split(answers(joined(calls)))
        for size in range(1, 81):
            self.assertEqual(split(answers(joined(calls[:size]))), whole[:size])


if __name__ == "__main__":
    unittest.main()
