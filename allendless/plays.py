"""Games of endless plays: their worth, rules that make sure of something, best plays, and games of players."""

from allendless.data import TOP, is_between
from allendless.errors import BadSide
from allendless.joint import joint_tree
from allendless.moduli import value_of_digits
from allendless.needed import Functions
from allendless.ratios import greatest_ratio, least_ratio, mean_of_all
from allendless.told import told_entry

OPPOSITE = {"great": "small", "small": "great"}
FREE = ("free",)


def _taken(side, worths):
    """What a side makes of some worths: the greatest, the least, or the mean."""
    if side == "great":
        return greatest_ratio(worths)
    return least_ratio(worths) if side == "small" else mean_of_all(worths)


def _worth_of_end(value):
    return (value, 1)


def _kept(tree):
    functions = Functions()
    return functions, functions.number_of(tree)


def _worths(functions, number, who):
    """The worth of each game that is left, by the numbers of the functions."""
    def at_ask(place, worths):
        return _taken(told_entry(who, place[0]), worths)
    return functions.folded(number, _worth_of_end, at_ask)


def worth(m, tree, who):
    """The worth of a game."""
    functions, number = _kept(tree)
    return _worths(functions, number, who)[number]


def cut_worth(m, tree, who, n):
    """The worth of a game that has only the moves below n, from the ends of all plays."""
    plays = [()]
    for _ in range(n):
        plays = [play + (digit,) for play in plays for digit in range(m)]
    worths = []
    for play in plays:
        worths.append((value_of_digits(tree, {(i, 0): digit for i, digit in enumerate(play)}), 1))
    for i in range(n - 1, -1, -1):
        side = told_entry(who, i)
        worths = [_taken(side, worths[first:first + m]) for first in range(0, len(worths), m)]
    return worths[0]


def _begins_rule(m, who, side, value, lowest):
    """Whether a rule begins here whose move is not below a least one, whatever the rules inside are."""
    if not isinstance(value, tuple) or not value or not isinstance(value[0], str):
        return False
    if value[0] == "free":
        return len(value) == 1
    if len(value) < 2 or not is_between(value[1], lowest, TOP):
        return False
    is_own = told_entry(who, value[1]) == side
    if value[0] == "own":
        return len(value) == 4 and is_own and is_between(value[2], 0, m - 1)
    if value[0] != "other" or len(value) != 3 or is_own:
        return False
    return isinstance(value[2], tuple) and len(value[2]) == m


def _rules_inside(rule):
    if rule[0] == "own":
        return (rule[3],)
    return rule[2] if rule[0] == "other" else ()


def is_rule(m, who, side, value):
    """Whether a value is a rule for a side."""
    todo = [(value, 0)]
    while todo:
        part, lowest = todo.pop()
        if not _begins_rule(m, who, side, part, lowest):
            return False
        todo.extend([(inside, part[1] + 1) for inside in _rules_inside(part)])
    return True


class Rules:
    """The unlike parts of a rule by their numbers, so that what is made of them is made once.

    A shape is (word, move, digit, numbers of the rules inside); move and digit are None where there are none.
    """

    def __init__(self, rule):
        self.numbers = {}
        self.shapes = []
        made = []
        todo = [(rule, False)]
        while todo:
            part, is_ended = todo.pop()
            inside = _rules_inside(part)
            if inside and not is_ended:
                todo.append((part, True))
                todo.extend([(other, False) for other in inside[::-1]])
                continue
            first = len(made) - len(inside)
            below = tuple(made[first:])
            del made[first:]
            made.append(self._numbered(part, below))
        self.top = made[0]

    def _numbered(self, part, below):
        """The number of a rule, those of the rules inside being known."""
        shape = (part[0], part[1] if below else None, part[2] if part[0] == "own" else None, below)
        if shape not in self.numbers:
            self.numbers[shape] = len(self.shapes)
            self.shapes.append(shape)
        return self.numbers[shape]


class SureWorths:
    """What a rule makes sure of, for games that are left and rules that are left: states (function, rule)."""

    def __init__(self, m, functions, who, side, rules):
        self.m = m
        self.functions = functions
        self.who = who
        self.side = side
        self.rules = rules

    def further(self, state):
        """The states behind the least move that is needed or stands at the rule's top, and who takes one of them.

        There are none behind a game whose values are all one, if the rule is free.
        """
        number, rule = state
        word, move, digit, inside = self.rules.shapes[rule]
        lowest = self.functions.lowests[number]
        if move is None and lowest is None:
            return [], None
        is_rules = move is not None and (lowest is None or move <= lowest[0])
        i = move if is_rules else lowest[0]
        numbers = [self.functions.left_at(number, (i, 0), at) for at in range(self.m)]
        if is_rules and word == "own":
            return [(numbers[digit], inside[0])], self.side
        taker = told_entry(self.who, i)
        if is_rules:
            return list(zip(numbers, inside)), taker
        # Where the rule leaves an own move open, it makes sure of the worst only.
        return [(left, rule) for left in numbers], OPPOSITE[taker] if taker == self.side else taker

    def worth_of(self, first):
        """The sure worth of a state."""
        worths = {}
        todo = [first]
        while todo:
            state = todo[-1]
            states, taker = self.further(state)
            missing = [other for other in states if other not in worths]
            if missing:
                todo.extend(missing)
                continue
            todo.pop()
            if taker is None:
                worths[state] = (self.functions.ends[state[0]][1], 1)
            else:
                worths[state] = _taken(taker, [worths[other] for other in states])
        return worths[first]


def sure_worth(m, tree, who, side, rule):
    """The sure worth of a rule for a side."""
    functions, number = _kept(tree)
    rules = Rules(rule)
    return SureWorths(m, functions, who, side, rules).worth_of((number, rules.top))


def best_rule(m, tree, who, side):
    """The best rule of a side."""
    def at_end(value):
        return (_worth_of_end(value), FREE)

    def at_ask(place, made):
        mover = told_entry(who, place[0])
        worths = [one for one, _ in made]
        rules = tuple([rule for _, rule in made])
        whole = _taken(mover, worths)
        if mover == side:
            digit = worths.index(whole)
            return (whole, ("own", place[0], digit, rules[digit]))
        return (whole, ("other", place[0], rules))
    functions, number = _kept(tree)
    return functions.folded(number, at_end, at_ask)[number][1]


def _shortest(digits):
    """A tuple of digits without the noughts at its end."""
    many = len(digits)
    while many > 0 and digits[many - 1] == 0:
        many -= 1
    return tuple(digits[:many])


def _play_of(entries):
    """The play that has these entries, a dict by indices, and 0 elsewhere."""
    return _shortest([entries.get(i, 0) for i in range(max([-1, *list(entries)]) + 1)])


def best_play(m, tree, who):
    """The best play of a game without chance, by the shortest tuple of digits behind which all is 0."""
    functions, number = _kept(tree)
    for i, _ in functions.places_of(number):
        if told_entry(who, i) == "chance":
            raise BadSide("chance")
    worths = _worths(functions, number, who)
    entries = {}
    top = functions.top_of(number)
    while top[0] == "ask":
        # The least digit whose game has the worth of this one, which is that of all games on the way.
        digits = [digit for digit, branch in enumerate(top[2]) if worths[branch] == worths[number]]
        entries[top[1][0]] = digits[0]
        top = functions.top_of(top[2][digits[0]])
    return _play_of(entries)


def _kept_behind(trees, beginning):
    """The function of the values of all trees, a tuple of them, behind a beginning of the play."""
    def tell(values):
        return values
    functions = Functions()
    entries = {(i, 0): digit for i, digit in enumerate(beginning)}
    return functions, functions.number_of(joint_tree(trees, tell, entries))


def _told_digit(who, place, told):
    """The least digit with which the player of a move has its greatest value, by the told values behind each."""
    player = told_entry(who, place[0])
    held = [values[player] for values in told]
    return held.index(max(held))


def _all_told(functions, number, who):
    """The told values of each game that is left, by the numbers of the functions."""
    def at_end(values):
        return values

    def at_ask(place, told):
        return told[_told_digit(who, place, told)]
    return functions.folded(number, at_end, at_ask)


def told_play(m, trees, who, beginning):
    """The told play from a beginning on, by the shortest tuple of digits behind which all is 0."""
    functions, number = _kept_behind(trees, beginning)
    told = _all_told(functions, number, who)
    entries = {i: digit for i, digit in enumerate(beginning)}
    top = functions.top_of(number)
    while top[0] == "ask":
        digit = _told_digit(who, top[1], [told[branch] for branch in top[2]])
        entries[top[1][0]] = digit
        top = functions.top_of(top[2][digit])
    return _play_of(entries)


def told_values(m, trees, who, beginning):
    """The values of all trees on the told play from a beginning on."""
    functions, number = _kept_behind(trees, beginning)
    return _all_told(functions, number, who)[number]


def reply_value(m, trees, who, player, beginning):
    """The greatest value of a player's tree behind a beginning, if all others keep to the told moves."""
    def at_end(values):
        return (values, values[player])

    def at_ask(place, made):
        told = [values for values, _ in made]
        digit = _told_digit(who, place, told)
        if told_entry(who, place[0]) == player:
            return (told[digit], max([reply for _, reply in made]))
        return (told[digit], made[digit][1])
    functions, number = _kept_behind(trees, beginning)
    return functions.folded(number, at_end, at_ask)[number][1]
