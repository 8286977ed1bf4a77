"""The calls on one works, and what they answer."""

from safegrants.changes import ask, back, begin, drop, end, give, more, new_batch
from safegrants.questions import tell_free, tell_locked, tell_safe
from safegrants.reading import has_told_form, read_calls
from safegrants.refusals import UNKNOWN_FORM
from safegrants.state import State


def answer_change(state, place, numbers, rows):
    """The answer of a call of the places 0 to 7."""
    if place == 0:
        return begin(state, rows[0])
    if place == 1:
        return new_batch(state, numbers[0], rows)
    if place == 2:
        return ask(state, numbers[0], rows[0])
    if place == 3:
        return give(state, numbers[0], rows[0])
    if place == 4:
        return back(state, numbers[0], rows[0])
    if place == 5:
        return end(state, numbers[0])
    if place == 6:
        return drop(state, numbers[0])
    return more(state, numbers[0], numbers[1])


def answer_question(state, place):
    """The answer of a call of the places 8 to 10."""
    if place == 8:
        return tell_safe(state)
    if place == 9:
        return tell_locked(state)
    return tell_free(state)


def answer_call(state, call):
    """The answer of one call, as a list of numbers."""
    if not has_told_form(call):
        return [UNKNOWN_FORM]
    if call.place <= 7:
        return answer_change(state, call.place, call.numbers, call.rows)
    return answer_question(state, call.place)


def answers(calls):
    """For each call, in order, how many numbers are answered, then these."""
    state = State()
    told = []
    for call in read_calls(calls):
        answer = answer_call(state, call)
        told.append(len(answer))
        told.extend(answer)
    return told
