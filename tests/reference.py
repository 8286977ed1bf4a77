"""A second works, written from the document alone: slow, and by other means than the program.

Whether batches can end is found out by trying all orders, not the first that comes. How much
could be granted or is lacking is found out by trying every number at which anything could tip.
"""

from itertools import chain, combinations

MOST = 1000000000


class Refused(Exception):
    pass


def refuse(number, due):
    if due:
        raise Refused(number)


class Works:
    def __init__(self):
        self.totals = ()
        self.claims = {}
        self.held = {}
        self.queue = []
        self.numbers = {}
        self.waited = 0

    def free(self, held=None):
        held = self.held if held is None else held
        return tuple(total - sum(has[j] for has in held.values()) for j, total in enumerate(self.totals))

    def endable(self, number, held, free):
        has = held[number]
        return any(
            all(h <= a and a - h <= f for h, a, f in zip(has, alternative, free))
            for alternative in self.claims[number]
        )

    def reached(self, may_leave):
        """All sets of batches that can have left, found over all orders."""
        seen = {frozenset()}
        todo = [frozenset()]
        while todo:
            gone = todo.pop()
            free = tuple(f + sum(self.held[g][j] for g in gone) for j, f in enumerate(self.free()))
            for number in self.held:
                after = gone | {number}
                if number not in gone and may_leave(number, free) and after not in seen:
                    seen.add(after)
                    todo.append(after)
        return seen

    def stuck(self):
        greatest = max(self.reached(lambda number, free: self.endable(number, self.held, free)), key=len)
        return [number for number in self.held if number not in greatest]

    def stuck_with(self, number, things):
        """The stuck ones when the batch holds so much more."""
        kept = self.held[number]
        self.held[number] = tuple(h + t for h, t in zip(kept, things))
        stuck = self.stuck()
        self.held[number] = kept
        return stuck

    def safe_with(self, number, things):
        return all(t <= f for t, f in zip(things, self.free())) and self.stuck_with(number, things) == []

    def safe_without(self, gone):
        """Whether the state is safe when these are gone with what they held."""
        kept = self.held
        self.held = {number: has for number, has in kept.items() if number not in gone}
        answer = self.stuck() == []
        self.held = kept
        return answer

    def fits(self, number, things):
        has = [h + t for h, t in zip(self.held[number], things)]
        return any(all(h <= a for h, a in zip(has, alternative)) for alternative in self.claims[number])

    def waits(self, number):
        return any(waiting == number for waiting, things in self.queue)

    def row(self, things):
        return len(things) == len(self.totals) and all(0 <= t <= MOST for t in things)

    def known(self, number):
        refuse(-1, not 1 <= number <= MOST)
        refuse(-10, number not in self.held)

    def look(self):
        granted = []
        for entry in list(self.queue):
            number, things = entry
            if self.safe_with(number, things):
                self.change(number, things, 1)
                self.queue.remove(entry)
                granted.append(number)
        return [0, len(granted)] + granted

    def change(self, number, things, sign):
        self.held[number] = tuple(h + sign * t for h, t in zip(self.held[number], things))

    def begin(self, numbers, rows):
        refuse(-2, not 1 <= len(rows[0]) <= 6 or any(not 0 <= t <= MOST for t in rows[0]))
        self.__init__()
        self.totals = tuple(rows[0])
        return [0]

    def batch(self, numbers, rows):
        number = numbers[0]
        refuse(-1, not 1 <= number <= MOST)
        refuse(-2, not 1 <= len(rows) <= 4)
        for row in rows:
            refuse(-2, not self.row(row) or any(a > t for a, t in zip(row, self.totals)))
        refuse(-3, number in self.held)
        refuse(-6, len(self.held) == 10)
        self.claims[number] = [tuple(row) for row in rows]
        self.held[number] = (0,) * len(self.totals)
        return [0]

    def ask(self, numbers, rows):
        number, things = numbers[0], tuple(rows[0])
        self.known(number)
        refuse(-2, not self.row(things))
        refuse(-7, self.waits(number))
        refuse(-4, not self.fits(number, things))
        if self.safe_with(number, things):
            self.change(number, things, 1)
            return [1]
        self.queue.append((number, things))
        self.numbers[number] = self.waited
        self.waited += 1
        return [0]

    def give(self, numbers, rows):
        number, things = numbers[0], tuple(rows[0])
        self.known(number)
        refuse(-2, not self.row(things))
        refuse(-4, not self.fits(number, things))
        refuse(-5, any(t > f for t, f in zip(things, self.free())))
        self.change(number, things, 1)
        return [1 if self.stuck() == [] else 0]

    def back(self, numbers, rows):
        number, things = numbers[0], tuple(rows[0])
        self.known(number)
        refuse(-2, not self.row(things))
        refuse(-4, any(t > h for t, h in zip(things, self.held[number])))
        self.change(number, things, -1)
        return self.look()

    def end(self, numbers, rows):
        self.known(numbers[0])
        self.held.pop(numbers[0])
        self.claims.pop(numbers[0])
        self.queue = [entry for entry in self.queue if entry[0] != numbers[0]]
        return self.look()

    def drop(self, numbers, rows):
        self.known(numbers[0])
        refuse(-7, not self.waits(numbers[0]))
        self.queue = [entry for entry in self.queue if entry[0] != numbers[0]]
        return [0]

    def more(self, numbers, rows):
        j, n = numbers
        refuse(-1, not 0 <= j < len(self.totals) or not 1 <= n <= MOST)
        refuse(-6, self.totals[j] + n > MOST)
        self.totals = self.totals[:j] + (self.totals[j] + n,) + self.totals[j + 1:]
        return self.look()

    def safe(self, numbers, rows):
        stuck = self.stuck()
        if stuck:
            return [0, len(stuck)] + stuck
        order = []
        held = dict(self.held)
        while held:
            # Batches that have ended hold nothing any more, so they don't count in free.
            chosen = [number for number in held if self.endable(number, held, self.free(held))][0]
            order.append(chosen)
            held.pop(chosen)
        return [1, len(order)] + order

    def locked(self, numbers, rows):
        wants = dict(self.queue)
        nothing = (0,) * len(self.totals)

        def goes_on(number, free):
            return all(w <= f for w, f in zip(wants.get(number, nothing), free))

        greatest = max(self.reached(goes_on), key=len)
        left = [number for number in self.held if number not in greatest]
        return [len(left)] + left

    def tell_free(self, numbers, rows):
        return list(self.free())

    def could(self, numbers, rows):
        number, things = numbers[0], tuple(rows[0])
        self.known(number)
        refuse(-2, not self.row(things))
        if not self.fits(number, things):
            return [1]
        if any(t > f for t, f in zip(things, self.free())):
            return [2]
        stuck = self.stuck_with(number, things)
        return [3, len(stuck)] + stuck if stuck else [0]

    def single(self, j, n):
        return tuple(n if k == j else 0 for k in range(len(self.totals)))

    def lacks(self, j):
        """What each batch could be lacking of kind j, when any others have ended, less what's free then."""
        found = set()
        for gone in all_parts(self.held):
            free = self.free()[j] + sum(self.held[number][j] for number in gone)
            for number, alternatives in self.claims.items():
                found.update(alternative[j] - self.held[number][j] - free for alternative in alternatives)
        return found

    def room(self, numbers, rows):
        number, j = numbers
        refuse(-1, not 1 <= number <= MOST or not 0 <= j < len(self.totals))
        self.known(number)
        refuse(-8, self.stuck() != [])
        tips = {-short for short in self.lacks(j)} | {self.free()[j]}
        tips |= {alternative[j] - self.held[number][j] for alternative in self.claims[number]}
        fitting = [n for n in tips if n >= 0 and self.fits(number, self.single(j, n))]
        return [max([n for n in fitting if self.safe_with(number, self.single(j, n))], default=0)]

    def lack(self, numbers, rows):
        j = numbers[0]
        refuse(-1, not 0 <= j < len(self.totals))
        kept = self.totals
        found = []
        for n in sorted({0} | {short for short in self.lacks(j) if 0 <= short <= 10 * MOST}):
            self.totals = tuple(t + more for t, more in zip(kept, self.single(j, n)))
            if not found and self.stuck() == []:
                found = [n]
        self.totals = kept
        return [1] + found if found else [0]

    def victims(self, numbers, rows):
        for size in range(len(self.held) + 1):
            # Parts of a rising list come with the first, compared number by number, ahead.
            for gone in combinations(sorted(self.held), size):
                if self.safe_without(gone):
                    return [size] + list(gone)

    def cheapest(self, numbers, rows):
        row = rows[0]
        refuse(-2, len(row) % 2 == 1)
        names, prices = row[::2], row[1::2]
        refuse(-2, not self.named(names) or any(not 0 <= price <= MOST for price in prices))
        costs = dict.fromkeys(self.held, 0)
        costs.update(zip(names, prices))
        found = []
        for gone in all_parts(sorted(self.held)):
            if self.safe_without(gone):
                found.append((sum(costs[number] for number in gone), len(gone), gone))
        cost, size, gone = min(found)
        return [cost, size] + list(gone)

    def named(self, names):
        return all(name in self.held for name in names) and len(set(names)) == len(names)

    def all_orders(self, left):
        """All orders in which those left can be ended when the others have, written out one by one."""
        if not left:
            return [[]]
        free = self.free({number: self.held[number] for number in left})
        found = []
        for number in left:
            if self.endable(number, self.held, free):
                rest = [other for other in left if other != number]
                found += [[number] + order for order in self.all_orders(rest)]
        return found

    def orders(self, numbers, rows):
        return [len(self.all_orders(list(self.held)))]

    def order(self, numbers, rows):
        k = numbers[0]
        refuse(-1, not 0 <= k <= MOST)
        came = list(self.held)
        found = sorted(self.all_orders(came), key=lambda order: [came.index(number) for number in order])
        refuse(-10, len(found) <= k)
        return found[k]

    def check(self, numbers, rows):
        names = rows[0]
        refuse(-2, not self.named(names))
        held = dict(self.held)
        for name in names:
            if not self.endable(name, held, self.free(held)):
                return [1, name]
            held.pop(name)
        return [0, len(names)]

    def blocks(self, numbers, rows):
        names = rows[0]
        refuse(-2, not self.named(names))
        left = {name: self.held[name] for name in names}
        return [1 if left and not any(self.endable(name, left, self.free(left)) for name in left) else 0]

    def told(self, numbers, rows):
        found = [len(self.totals), *self.totals, len(self.held)]
        for number, has in self.held.items():
            found += [number, len(self.claims[number]), *chain(*self.claims[number]), *has]
            if self.waits(number):
                found += [1, self.numbers[number], *dict(self.queue)[number]]
            else:
                found += [0]
        return found


def all_parts(numbers):
    numbers = list(numbers)
    return chain(*[combinations(numbers, size) for size in range(len(numbers) + 1)])


CALLS = ["begin", "batch", "ask", "give", "back", "end", "drop", "more", "safe", "locked", "tell_free"]
CALLS += ["could", "room", "lack", "victims", "cheapest", "orders", "order", "check", "blocks", "told"]


def do(works, one):
    """The answer of one call that is (place, numbers, rows)."""
    place, numbers, rows = one
    try:
        return getattr(works, CALLS[place])(numbers, rows)
    except Refused as refused:
        return [refused.args[0]]


def reference_answers(calls):
    """The answers of calls that are (place, numbers, rows), a list for each."""
    works = Works()
    return [do(works, one) for one in calls]
