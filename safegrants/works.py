"""The calls on one works, and what they answer."""

from safegrants.changes import ask, back, begin, drop, end, give, more, new_batch
from safegrants.limits import tell_lack, tell_room
from safegrants.orders import count_orders, tell_order
from safegrants.questions import tell_all, tell_blocks, tell_check, tell_could, tell_free, tell_locked, tell_safe
from safegrants.reading import has_told_form, read_calls
from safegrants.refusals import UNKNOWN_FORM
from safegrants.state import State
from safegrants.victims import tell_cheapest, tell_victims


def answer_change(state, place, numbers, rows):
    """The answer of a call of the places 0 to 7."""
    if place == 0:
        return begin(state, rows[0])
    if place == 1:
        return new_batch(state, numbers[0], rows)
    if place == 2:
        return ask(state, numbers[0], rows[0])
    if place == 3:
        return give(state, numbers[0], rows[0])
    if place == 4:
        return back(state, numbers[0], rows[0])
    if place == 5:
        return end(state, numbers[0])
    if place == 6:
        return drop(state, numbers[0])
    return more(state, numbers[0], numbers[1])


def answer_question(state, place, numbers, rows):
    """The answer of a call of the places 8 to 20."""
    if place == 8:
        return tell_safe(state)
    if place == 9:
        return tell_locked(state)
    if place == 10:
        return tell_free(state)
    if place == 11:
        return tell_could(state, numbers[0], rows[0])
    if place == 12:
        return tell_room(state, numbers[0], numbers[1])
    if place == 13:
        return tell_lack(state, numbers[0])
    if place == 14:
        return tell_victims(state)
    if place == 15:
        return tell_cheapest(state, rows[0])
    if place == 16:
        return count_orders(state)
    if place == 17:
        return tell_order(state, numbers[0])
    if place == 18:
        return tell_check(state, rows[0])
    if place == 19:
        return tell_blocks(state, rows[0])
    return tell_all(state)


def answer_call(state, call):
    """The answer of one call, as a list of numbers."""
    if not has_told_form(call):
        return [UNKNOWN_FORM]
    if call.place <= 7:
        return answer_change(state, call.place, call.numbers, call.rows)
    return answer_question(state, call.place, call.numbers, call.rows)


def answers(calls):
    """For each call, in order, how many numbers are answered, then these."""
    state = State()
    told = []
    for call in read_calls(calls):
        answer = answer_call(state, call)
        told.append(len(answer))
        told.extend(answer)
    return told
