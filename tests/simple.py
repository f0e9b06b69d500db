"""A second working out of terms, as plainly as can be: by recursion, for tests to compare with."""

from fractions import Fraction

TOP = 10 ** 18 - 1


class Stop(Exception):
    """A run stops at an entry of a row."""

    def __init__(self, row, i):
        super().__init__(i)
        self.row = row
        self.i = i


class TooLong(Exception):
    """A run takes too many steps."""


class Row:
    """A row of which entries are known: a parameter or that of a quantifier."""

    def __init__(self, run, known, number=None, told=None):
        self.run = run
        self.known = known
        self.number = number
        self.told = told

    def entry(self, i):
        if self.told is not None:
            beginning, around = self.told
            self.run.note((i, self.number))
            return beginning[i] if i < len(beginning) else around[(i - len(beginning)) % len(around)]
        if i not in self.known:
            raise Stop(self, i)
        if self.number is not None:
            self.run.note((i, self.number))
        return self.known[i]


class Made:
    """A made row."""

    def __init__(self, run, term, env):
        self.run = run
        self.term = term
        self.env = env

    def entry(self, i):
        return self.run.work(self.term[3], {**self.env, self.term[1]: i})


class Found:
    """A found row."""

    def __init__(self, entries):
        self.entries = entries

    def entry(self, i):
        return self.entries.get(i, 0)


class SimpleRun:
    def __init__(self, most=10 ** 9):
        self.steps = 0
        self.reads = []
        self.most = most

    def note(self, place):
        if place not in self.reads:
            self.reads.append(place)

    def work(self, term, env):
        self.steps += 1
        if self.steps > self.most:
            raise TooLong()
        word = term[0]
        if word == "var":
            return env[term[1]]
        if word == "digit":
            return term[2]
        if word == "number":
            return term[1]
        if word == "prim":
            left, right = self.work(term[2][0], env), self.work(term[2][1], env)
            return prim(term[1], left, right)
        if word == "as":
            return self.work(term[2], env) % term[1]
        if word == "count":
            return self.work(term[1], env)
        if word == "if":
            return self.work(term[2] if self.work(term[1], env) == 1 else term[3], env)
        if word == "fn":
            return lambda value: self.work(term[3], {**env, term[1]: value})
        if word == "call":
            function = self.work(term[1], env)
            return function(self.work(term[2], env))
        if word == "pair":
            left = self.work(term[1], env)
            return (left, self.work(term[2], env))
        if word == "first":
            return self.work(term[1], env)[0]
        if word == "second":
            return self.work(term[1], env)[1]
        if word == "repeat":
            turns, function, value = [self.work(part, env) for part in term[1:]]
            for _ in range(min(turns, 60)):
                value = function(value)
            return value
        if word == "at":
            row = self.work(term[1], env)
            return row.entry(self.work(term[2], env))
        if word == "row":
            return Made(self, term, env)
        return self.quantifier(term, env)

    def quantifier(self, term, env):
        word, name, size = term[:3]
        times = self.work(term[4], env) if word == "share" else 0
        row = Row(self, {})
        body = term[5] if word == "contest" else term[3]
        ends = []
        self.go(body, {**env, name: row}, row, size, ends)
        values = [value for _, value in ends]
        if word == "some":
            return 1 if 1 in values else 0
        if word == "every":
            return 1 if values == [1] * len(values) else 0
        if word == "least":
            return min(values)
        if word == "greatest":
            return max(values)
        if word == "share":
            share = sum([Fraction(1, size ** len(known)) for known, value in ends if value == 1], Fraction(0))
            return min(int(times * share), TOP)
        if word == "find":
            rows = [known for known, value in ends if value == 1] or [{}]
            indices = sorted({i for known in rows for i in known})
            return Found(min(rows, key=lambda known: [known.get(i, 0) for i in indices]))
        return self.game(term, env, ends)

    def go(self, body, env, row, size, ends):
        try:
            value = self.work(body, env)
        except Stop as stop:
            if stop.row is not row:
                raise
            for digit in range(size):
                row.known[stop.i] = digit
                self.go(body, env, row, size, ends)
            del row.known[stop.i]
            return
        ends.append((dict(row.known), value))

    def game(self, term, env, ends):
        _, _, size, move, side, _ = term
        needed = least_needed(ends)
        if needed is None:
            return ends[0][1]
        word = self.work(side, {**env, move: needed})
        worths = []
        for digit in range(size):
            left = [(without(known, needed), value) for known, value in ends if known.get(needed, digit) == digit]
            worths.append(self.game(term, env, left))
        return max(worths) if word == 0 else min(worths)


def without(known, place):
    return {other: known[other] for other in known if other != place}


def go_together(known, other):
    return all(other.get(place, known[place]) == known[place] for place in known)


def least_needed(ends):
    """The least place that ends (dicts of what is known, values) need, by DOC.md [31]; None if there is none."""
    for place in sorted({place for known, _ in ends for place in known}):
        for known, value in ends:
            for other, worth in ends:
                if value != worth and known.get(place, 0) != other.get(place, 0) and place in known and place in other:
                    if go_together(without(known, place), without(other, place)):
                        return place
    return None


def prim(word, left, right):
    if word == "add":
        return min(left + right, TOP)
    if word == "less":
        return max(left - right, 0)
    if word == "times":
        return min(left * right, TOP)
    if word == "over":
        return left // right if right else 0
    if word == "rest":
        return left % right if right else 0
    return int(left < right if word == "below" else left == right)


def body_of(program):
    names = []
    while program[0] == "fn":
        names.append(program[1])
        program = program[3]
    return names, program


def run_known(program, known, most=10 ** 9):
    """What plain.run_known tells."""
    run = SimpleRun(most)
    names, body = body_of(program)
    rows = [Row(run, {i: d for (i, number), d in known if number == k}, k) for k, _ in enumerate(names)]
    try:
        value = run.work(body, dict(zip(names, rows)))
    except Stop as stop:
        return ("stop", (stop.i, stop.row.number), tuple(run.reads), run.steps)
    return ("value", value, tuple(run.reads), run.steps)


def run_told(program, told, most=10 ** 9):
    """What plain.run_told tells."""
    run = SimpleRun(most)
    names, body = body_of(program)
    rows = [Row(run, {}, k, row) for k, row in enumerate(told)]
    value = run.work(body, dict(zip(names, rows)))
    return (value, tuple(run.reads), run.steps)


def ways(program, menu, most):
    """The ways, the work, the number of ends."""
    tally = [0, 0]

    def grow(known):
        found = run_known(program, sorted(known.items()), most - tally[0])
        tally[0] += found[3]
        if found[0] == "value":
            tally[1] += 1
            return ("end", found[1])
        place = found[1]
        return ("ask", place, tuple([grow({**known, place: d}) for d in range(menu[place[1]])]))
    return grow({}), tally[0], tally[1]
