"""A second works, written from the document alone: slow, and by other means than the program.

Whether batches can end is found out by trying all orders, not the first that comes.
"""

MOST = 1000000000


class Refused(Exception):
    pass


def refuse(number, due):
    if due:
        raise Refused(number)


class Works:
    def __init__(self):
        self.totals = ()
        self.claims = {}
        self.held = {}
        self.queue = []

    def free(self, held=None):
        held = self.held if held is None else held
        return tuple(total - sum(has[j] for has in held.values()) for j, total in enumerate(self.totals))

    def endable(self, number, held, free):
        has = held[number]
        return any(
            all(h <= a and a - h <= f for h, a, f in zip(has, alternative, free))
            for alternative in self.claims[number]
        )

    def reached(self, may_leave):
        """All sets of batches that can have left, found over all orders."""
        seen = {frozenset()}
        todo = [frozenset()]
        while todo:
            gone = todo.pop()
            free = tuple(f + sum(self.held[g][j] for g in gone) for j, f in enumerate(self.free()))
            for number in self.held:
                after = gone | {number}
                if number not in gone and may_leave(number, free) and after not in seen:
                    seen.add(after)
                    todo.append(after)
        return seen

    def stuck(self):
        greatest = max(self.reached(lambda number, free: self.endable(number, self.held, free)), key=len)
        return [number for number in self.held if number not in greatest]

    def safe_with(self, number, things):
        kept = self.held[number]
        self.held[number] = tuple(h + t for h, t in zip(kept, things))
        free = self.free()
        answer = min(free, default=0) >= 0 and self.stuck() == []
        self.held[number] = kept
        return answer

    def fits(self, number, things):
        has = [h + t for h, t in zip(self.held[number], things)]
        return any(all(h <= a for h, a in zip(has, alternative)) for alternative in self.claims[number])

    def waits(self, number):
        return any(waiting == number for waiting, things in self.queue)

    def row(self, things):
        return len(things) == len(self.totals) and all(0 <= t <= MOST for t in things)

    def known(self, number):
        refuse(-1, not 1 <= number <= MOST)
        refuse(-10, number not in self.held)

    def look(self):
        granted = []
        for entry in list(self.queue):
            number, things = entry
            if self.safe_with(number, things):
                self.change(number, things, 1)
                self.queue.remove(entry)
                granted.append(number)
        return [0, len(granted)] + granted

    def change(self, number, things, sign):
        self.held[number] = tuple(h + sign * t for h, t in zip(self.held[number], things))

    def begin(self, numbers, rows):
        refuse(-2, not 1 <= len(rows[0]) <= 6 or any(not 0 <= t <= MOST for t in rows[0]))
        self.__init__()
        self.totals = tuple(rows[0])
        return [0]

    def batch(self, numbers, rows):
        number = numbers[0]
        refuse(-1, not 1 <= number <= MOST)
        refuse(-2, not 1 <= len(rows) <= 4)
        for row in rows:
            refuse(-2, not self.row(row) or any(a > t for a, t in zip(row, self.totals)))
        refuse(-3, number in self.held)
        refuse(-6, len(self.held) == 10)
        self.claims[number] = [tuple(row) for row in rows]
        self.held[number] = (0,) * len(self.totals)
        return [0]

    def ask(self, numbers, rows):
        number, things = numbers[0], tuple(rows[0])
        self.known(number)
        refuse(-2, not self.row(things))
        refuse(-7, self.waits(number))
        refuse(-4, not self.fits(number, things))
        if self.safe_with(number, things):
            self.change(number, things, 1)
            return [1]
        self.queue.append((number, things))
        return [0]

    def give(self, numbers, rows):
        number, things = numbers[0], tuple(rows[0])
        self.known(number)
        refuse(-2, not self.row(things))
        refuse(-4, not self.fits(number, things))
        refuse(-5, any(t > f for t, f in zip(things, self.free())))
        self.change(number, things, 1)
        return [1 if self.stuck() == [] else 0]

    def back(self, numbers, rows):
        number, things = numbers[0], tuple(rows[0])
        self.known(number)
        refuse(-2, not self.row(things))
        refuse(-4, any(t > h for t, h in zip(things, self.held[number])))
        self.change(number, things, -1)
        return self.look()

    def end(self, numbers, rows):
        self.known(numbers[0])
        self.held.pop(numbers[0])
        self.claims.pop(numbers[0])
        self.queue = [entry for entry in self.queue if entry[0] != numbers[0]]
        return self.look()

    def drop(self, numbers, rows):
        self.known(numbers[0])
        refuse(-7, not self.waits(numbers[0]))
        self.queue = [entry for entry in self.queue if entry[0] != numbers[0]]
        return [0]

    def more(self, numbers, rows):
        j, n = numbers
        refuse(-1, not 0 <= j < len(self.totals) or not 1 <= n <= MOST)
        refuse(-6, self.totals[j] + n > MOST)
        self.totals = self.totals[:j] + (self.totals[j] + n,) + self.totals[j + 1:]
        return self.look()

    def safe(self, numbers, rows):
        stuck = self.stuck()
        if stuck:
            return [0, len(stuck)] + stuck
        order = []
        held = dict(self.held)
        while held:
            # Batches that have ended hold nothing any more, so they don't count in free.
            chosen = [number for number in held if self.endable(number, held, self.free(held))][0]
            order.append(chosen)
            held.pop(chosen)
        return [1, len(order)] + order

    def locked(self, numbers, rows):
        wants = dict(self.queue)
        nothing = (0,) * len(self.totals)

        def goes_on(number, free):
            return all(w <= f for w, f in zip(wants.get(number, nothing), free))

        greatest = max(self.reached(goes_on), key=len)
        left = [number for number in self.held if number not in greatest]
        return [len(left)] + left

    def tell_free(self, numbers, rows):
        return list(self.free())


CALLS = ["begin", "batch", "ask", "give", "back", "end", "drop", "more", "safe", "locked", "tell_free"]


def reference_answers(calls):
    """The answers of calls that are (place, numbers, rows), a list for each."""
    works = Works()
    found = []
    for place, numbers, rows in calls:
        try:
            found.append(getattr(works, CALLS[place])(numbers, rows))
        except Refused as refused:
            found.append([refused.args[0]])
    return found
