"""Calls by their names, and the answers call by call."""

from safegrants.works import answers

MOST = 1000000000
FAR = 1000000000000000000


def call(place, numbers=(), rows=()):
    flat = [place, len(numbers)] + list(numbers) + [len(rows)]
    for row in rows:
        flat += [len(row)] + list(row)
    return flat


def begin(*totals):
    return call(0, (), [totals])


def batch(number, *alternatives):
    return call(1, (number,), alternatives)


def ask(number, *things):
    return call(2, (number,), [things])


def give(number, *things):
    return call(3, (number,), [things])


def back(number, *things):
    return call(4, (number,), [things])


def end(number):
    return call(5, (number,))


def drop(number):
    return call(6, (number,))


def more(j, n):
    return call(7, (j, n))


def could(number, *things):
    return call(11, (number,), [things])


def room(number, j):
    return call(12, (number, j))


def lack(j):
    return call(13, (j,))


def cheapest(*costs):
    return call(15, (), [costs])


def order(k):
    return call(17, (k,))


def check(*numbers):
    return call(18, (), [numbers])


def blocks(*numbers):
    return call(19, (), [numbers])


SAFE = call(8)
LOCKED = call(9)
FREE = call(10)
VICTIMS = call(14)
ORDERS = call(16)
TOLD = call(20)


def joined(calls):
    flat = []
    for one in calls:
        flat += one
    return flat


def split(told):
    found = []
    at = 0
    while at < len(told):
        size = told[at]
        found.append(told[at + 1:at + 1 + size])
        if len(found[-1]) != size:
            raise ValueError("an answer ends too early")
        at += 1 + size
    return found


def run(*calls):
    """The answers of these calls on a new works, a list for each call."""
    found = split(answers(joined(calls)))
    if len(found) != len(calls):
        raise ValueError("not one answer for each call")
    return found


def last(*calls):
    """The last call's answer."""
    return run(*calls)[-1]
