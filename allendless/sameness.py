"""Which functions of rows are the same, where they are not, how far apart they are, and what beginnings settle."""

from allendless.data import data_text, flat, power
from allendless.errors import TooGreat, WrongKind
from allendless.joint import coded, even_rates, joint_tree, joint_weights
from allendless.judging import menu_of, result_of
from allendless.leasttrees import least_of
from allendless.needed import Functions
from allendless.ratios import mean_of_all, ratio
from allendless.trees import MOST_NODES
from allendless.ways import ways

MOST_BEGINNINGS = 4096
DIGIT_BITS = 4
DIGIT_SIGNS = 15


def same(sizes, tree, other):
    """Whether two trees have the same value on all rows."""
    functions = Functions()
    return functions.number_of(tree) == functions.number_of(other)


def same_programs(program, other):
    """Whether two programs give the same on all rows."""
    if menu_of(program) != menu_of(other) or data_text(result_of(program)) != data_text(result_of(other)):
        raise WrongKind()
    return same(menu_of(program), ways(program), ways(other))


def unlike_entries(functions, one, other):
    """The least entries with which two unlike functions have two unlike values, a dict, and these values.

    All places that either needs on the way there are told, with their noughts.
    """
    entries = {}
    while True:
        lowests = [functions.lowests[number] for number in (one, other)]
        needed = [place for place in lowests if place is not None]
        if not needed:
            return entries, functions.ends[one][1], functions.ends[other][1]
        place = min(needed)
        digit = 0
        # Some digit keeps them unlike.
        while functions.left_at(one, place, digit) == functions.left_at(other, place, digit):
            digit += 1
        entries[place] = digit
        one = functions.left_at(one, place, digit)
        other = functions.left_at(other, place, digit)


def least_unlike(sizes, tree, other):
    """The entries other than 0 of the least rows on which two trees are unlike, or None."""
    functions = Functions()
    one = functions.number_of(tree)
    second = functions.number_of(other)
    if one == second:
        return None
    entries, _, _ = unlike_entries(functions, one, second)
    return tuple([(place, entries[place]) for place in sorted(entries) if entries[place] > 0])


def _tell_unlike(told):
    return 0 if told[0] == told[1] else 1


def parting(sizes, tree, other):
    """The shortest beginning behind which two trees are unlike on all rows, or None if they are the same."""
    trees, _ = coded((tree, other))
    functions = Functions()
    number = functions.number_of(joint_tree(trees, _tell_unlike, {}))
    lengths = functions.folded(number, _parting_at_end, _parting_at_ask)
    length = lengths[number]
    if length is None:
        return None
    entries = {}
    top = functions.top_of(number)
    while top[0] == "ask":
        # The least digit that leads on to an end 1 within this length begins the least rows.
        digits = [at for at, branch in enumerate(top[2]) if _is_within(lengths[branch], length)]
        entries[top[1]] = digits[0]
        top = functions.top_of(top[2][digits[0]])
    return tuple([tuple([entries.get((i, k), 0) for i in range(length)]) for k in range(len(sizes))])


def _is_within(length, most):
    return length is not None and length <= most


def _parting_at_end(value):
    return 0 if value == 1 else None


def _parting_at_ask(place, branches):
    """How many entries have to be known at least for the value 1, if an ask is come to."""
    lengths = [length for length in branches if length is not None]
    return max(place[0] + 1, min(lengths)) if lengths else None


def distance(sizes, tree, other):
    """The share of the rows on which two trees are unlike."""
    trees, _ = coded((tree, other))
    weights, scale = joint_weights(even_rates(sizes), trees, {})
    return ratio(sum([weights[told] for told in weights if told[0] != told[1]]), scale)


def is_below(sizes, tree, other):
    """Whether a tree of numbers has on no rows a greater value than the other one."""
    return least_above(sizes, tree, other) is None


def _places_in(trees):
    """All places that stand in some trees, ascending."""
    places = {}
    todo = list(trees)
    while todo:
        part = todo.pop()
        if part[0] == "ask":
            places[part[1]] = True
            todo.extend(part[2])
    return sorted(places)


def least_above(sizes, tree, other):
    """The entries other than 0 of the least rows on which a tree of numbers is above the other one, or None."""
    places = _places_in((tree, other))
    shifts = {place: DIGIT_BITS * at for at, place in enumerate(places[::-1])}
    code = _least_code_above(tree, other, shifts)
    if code is None:
        return None
    entries = [(place, code >> shifts[place] & DIGIT_SIGNS) for place in places]
    return tuple([(place, digit) for place, digit in entries if digit > 0])


def _least_code_above(tree, other, shifts):
    """The least rows on which a tree is above another one, as one number: the digits of all places in their order."""
    lowest = None
    known = {}
    todo = [(None, 0, tree, None, 0)]
    while todo:
        place, digit, part, value, code = todo.pop()
        if part is None:
            del known[place]
            continue
        if place is not None:
            known[place] = digit
        if lowest is not None and code >= lowest:
            # Further digits only make rows greater.
            continue
        if value is None and part[0] == "end":
            value = part[1]
            part = other
        while part[0] == "ask" and part[1] in known:
            part = part[2][known[part[1]]]
        if part[0] == "end":
            if value > part[1]:
                lowest = code
            continue
        todo.append((part[1], 0, None, None, 0))
        for at in range(len(part[2]) - 1, -1, -1):
            todo.append((part[1], at, part[2][at], value, code | at << shifts[part[1]]))
    return lowest


def _tell_least(told):
    return min(told)


def _tell_greatest(told):
    return max(told)


def met(sizes, tree, other):
    """The least tree of the lesser one of the values of two trees."""
    functions = Functions()
    return least_of(functions, functions.number_of(joint_tree((tree, other), _tell_least, {})), MOST_NODES)


def joined(sizes, tree, other):
    """The least tree of the greater one of the values of two trees."""
    functions = Functions()
    return least_of(functions, functions.number_of(joint_tree((tree, other), _tell_greatest, {})), MOST_NODES)


def settled_share(sizes, tree, n):
    """The share of the rows on which their first n entries settle the value of a tree."""
    def at_end(value):
        return (1, 1)

    def at_ask(place, branches):
        return mean_of_all(branches) if place[0] < n else (0, 1)
    functions = Functions()
    number = functions.number_of(tree)
    return functions.folded(number, at_end, at_ask)[number]


def _count_beginnings(sizes, n):
    many = 1
    for size in sizes:
        many = many * power(size, n)
    return many


def nearest(sizes, tree, n):
    """The least tree that asks entries below n alone and has the value that a tree has there on most rows."""
    if _count_beginnings(sizes, n) > MOST_BEGINNINGS:
        raise TooGreat("beginnings")
    functions = Functions()
    number = functions.number_of(tree)
    made = Functions()
    numbers = {}
    for part in _parts_begun(functions, number, n):
        top = functions.top_of(part)
        if _is_asked_below(top, n):
            numbers[part] = made.ask_for(top[1], tuple([numbers[branch] for branch in top[2]]))
        else:
            numbers[part] = made.number_of(("end", _likeliest(sizes, least_of(functions, part, None))))
    return least_of(made, numbers[number], MOST_NODES)


def _is_asked_below(top, n):
    return top[0] == "ask" and top[1][0] < n


def _parts_begun(functions, number, n):
    """The parts of a least tree that are come to by entries below n, branches ahead of their asks."""
    parts = functions.parts_of(number)
    begun = {number: True}
    for part in parts[::-1]:
        top = functions.top_of(part)
        if part in begun and _is_asked_below(top, n):
            for branch in top[2]:
                begun[branch] = True
    return [part for part in parts if part in begun]


def _likeliest(sizes, tree):
    """The value that a tree has on the greatest share of all rows, of several such the least."""
    trees, told = coded((tree,))
    weights, _ = joint_weights(even_rates(sizes), trees, {})
    most = max(list(weights.values()))
    _, first = min([(flat(told[code[0]]), code[0]) for code in weights if weights[code] == most])
    return told[first]
