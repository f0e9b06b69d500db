"""Quantifiers: how one goes through all that its row can be, and what its ends tell."""

from allendless.data import TOP


class Going:
    """A quantifier that goes through all that its new row can be."""

    def __init__(self, term, env, times, todo_height, made_height):
        self.term = term
        self.env = (term[1], ("going", self), env)
        self.outside = env
        self.times = times
        self.known = {}
        self.asked = []
        self.ends = []
        self.todo_height = todo_height
        self.made_height = made_height
        self.game = None

    def note_end(self, value):
        """Note an end with what is known."""
        self.ends.append(([(i, self.known[i]) for i in self.asked], value))

    def has_more(self):
        """Go on to the next digit of the entry that was asked last and has one; False if there is none."""
        while self.asked:
            i = self.asked[-1]
            if self.known[i] + 1 < self.term[2]:
                self.known[i] += 1
                return True
            del self.known[i]
            self.asked.pop()
        return False


def _has_some(going):
    return 1 if any([value == 1 for _, value in going.ends]) else 0


def _has_all(going):
    return 1 if all([value == 1 for _, value in going.ends]) else 0


def _least_value(going):
    return min([value for _, value in going.ends])


def _greatest_value(going):
    return max([value for _, value in going.ends])


def _shared_number(going):
    """The number of the share times the share of all rows with 1, rounded down."""
    longest = max([len(known) for known, _ in going.ends])
    powers = [1]
    for _ in range(longest):
        powers.append(powers[-1] * going.term[2])
    many = sum([powers[longest - len(known)] for known, value in going.ends if value == 1])
    return min(going.times * many // powers[longest], TOP)


def _found_row(going):
    """The least row with 1: of two rows the one that has its first entry above 0 later is less."""
    found = None
    for known, value in going.ends:
        if value == 1:
            entries = sorted([(i, digit) for i, digit in known if digit > 0])
            key = [(-i, digit) for i, digit in entries]
            if found is None or key < found:
                found = key
    if found is None:
        return ("found", {})
    return ("found", {-i: digit for i, digit in found})


def function_of(going):
    """The number of the function that the ends of a contest tell, in its game."""
    asks = []
    made = 0
    for known, value in going.ends:
        further = known[len(asks):]
        for i, _ in further:
            asks.append((i, []))
        made = going.game.end_with(value)
        while asks:
            i, branches = asks[-1]
            branches.append(made)
            if len(branches) < going.term[2]:
                break
            asks.pop()
            made = going.game.ask_for((i, 0), tuple(branches))
    return made


RESULTS = {
    "some": _has_some, "every": _has_all, "least": _least_value, "greatest": _greatest_value,
    "share": _shared_number, "find": _found_row,
}


def result_of_ends(going):
    """The value of a quantifier that is no contest, all its ends having been noted."""
    action = RESULTS[going.term[0]]
    return action(going)
