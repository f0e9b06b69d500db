"""What values hang on: needed places, and which places are enough to know a value."""

from itertools import combinations

from allendless.data import data_text
from allendless.errors import TooGreat
from allendless.needed import Functions
from allendless.sameness import unlike_entries
from allendless.told import known_of, told_entry
from allendless.trees import fixed_at, value_on, way_on

MOST_FILLINGS = 4096
MOST_PLACES = 12


def needed_places(sizes, tree):
    """The places that the function of a tree needs, ascending."""
    functions = Functions()
    return functions.places_of(functions.number_of(tree))


def modulus(sizes, tree):
    """The least n such that the entries below n of all rows settle the value on all rows."""
    places = needed_places(sizes, tree)
    return places[-1][0] + 1 if places else 0


def hangs_on(sizes, tree, place):
    """Known entries and two digits at a place with which there are unlike values, (known, d, e, V, W), or None."""
    functions = Functions()
    numbers = [functions.number_of(fixed_at(tree, place, digit)) for digit in range(sizes[place[1]])]
    for digit, number in enumerate(numbers):
        if number != numbers[0]:
            entries, value, worth = unlike_entries(functions, numbers[0], number)
            return (known_of(entries), 0, digit, value, worth)
    return None


def is_enough(sizes, tree, rows, places):
    """Whether all rows with the same digits as told rows at some places have the same value."""
    digits = {(i, k): told_entry(rows[k], i) for i, k in places}
    texts = {}
    todo = [tree]
    while todo:
        part = todo.pop()
        if part[0] == "end":
            texts[data_text(part[1])] = True
        elif part[1] in digits:
            todo.append(part[2][digits[part[1]]])
        else:
            todo.extend(part[2])
    return len(texts) == 1


def enough_at(sizes, tree, rows):
    """The fewest places that are enough at told rows, of several such tuples the least."""
    places = list(needed_places(sizes, tree))
    if len(places) > MOST_PLACES:
        raise TooGreat("places")
    barriers = _least_masks(_barriers(tree, rows, places))
    bits = {place: 1 << at for at, place in enumerate(places)}
    for many in range(len(places) + 1):
        for chosen in combinations(places, many):
            mask = sum([bits[place] for place in chosen])
            if all([barrier & mask for barrier in barriers]):
                return chosen
    return tuple(places)


def _barriers(tree, rows, places):
    """For each end with another value than rows have: the places at which it is unlike the rows, as bits of a mask.

    Places are enough if they have one of each: then no other end goes along.
    """
    wanted = data_text(value_on(tree, rows))
    bits = {place: 1 << at for at, place in enumerate(places)}
    masks = {}
    todo = [(tree, 0)]
    while todo:
        part, mask = todo.pop()
        if part[0] == "end":
            if data_text(part[1]) != wanted:
                masks[mask] = True
            continue
        i, k = part[1]
        here = told_entry(rows[k], i)
        bit = bits.get(part[1], 0)
        for digit, branch in enumerate(part[2]):
            todo.append((branch, mask if digit == here else mask | bit))
    return list(masks)


def _least_masks(masks):
    """The masks that have no other one within them."""
    return [mask for mask in masks if not any([other != mask and other & mask == other for other in masks])]


def _fillings(tree, places, bases):
    """For each way to fill places, numbered with the first place's digit as the last one, the text of the value."""
    texts = []
    many = 1
    for base in bases:
        many = many * base
    for number in range(many):
        digits = {}
        for place, base in zip(places, bases):
            digits[place] = number % base
            number = number // base
        texts.append(data_text(value_of_digits(tree, digits)))
    return texts


def value_of_digits(tree, digits):
    """The value of a tree on the rows with these digits, a dict by their places, and 0 elsewhere."""
    while tree[0] == "ask":
        tree = tree[2][digits.get(tree[1], 0)]
    return tree[1]


def hardest(sizes, tree, value):
    """The greatest number of places that it takes to be enough at rows with a value; 0 if there are no such rows."""
    places = needed_places(sizes, tree)
    bases = [sizes[k] for _, k in places]
    many = 1
    for base in bases:
        many = many * base
    if many > MOST_FILLINGS:
        raise TooGreat("places")
    wanted = data_text(value)
    # Fillings stand in a mask, one bit each; at first all places are known, so all are enough.
    having = sum([1 << at for at, text in enumerate(_fillings(tree, places, bases)) if text == wanted])
    level = {tuple(range(len(places))): having}
    axes = _axes(bases)
    size = len(places)
    while size > 0:
        level = _one_less(level, axes)
        if _all_of(level) != having:
            return size
        size -= 1
    return 0


def _all_of(level):
    """The fillings for which some lot of places is enough."""
    found = 0
    for lot in level:
        found |= level[lot]
    return found


def _one_less(level, axes):
    """For each lot of places with one place less: the fillings for which it is enough."""
    made = {}
    for lot in level:
        for at in range(len(lot)):
            less = lot[:at] + lot[at + 1:]
            if less not in made:
                made[less] = _free_at(level[lot], axes[lot[at]])
    return made


def _free_at(mask, axis):
    """The fillings that stay in a mask whatever the digit at the place of an axis is."""
    base, step, noughts = axis
    whole = mask & noughts
    for digit in range(1, base):
        whole &= mask >> digit * step
    spread = whole
    for digit in range(1, base):
        spread |= whole << digit * step
    return spread


def _axes(bases):
    """For each place: its base, how far apart the fillings of two digits are, and the fillings with 0 there."""
    axes = []
    step = 1
    for number, base in enumerate(bases):
        axes.append((base, step, _noughts(bases, number)))
        step = step * base
    return axes


def _noughts(bases, number):
    """The fillings with 0 at the place of this number."""
    block = 1
    width = 1
    for at, base in enumerate(bases):
        made = block
        if at != number:
            for digit in range(1, base):
                made |= block << digit * width
        block = made
        width = width * base
    return block


def sensitive_places(sizes, tree, rows):
    """The places at which exchanging the digit of told rows alone changes the value, ascending."""
    here = {place: digit for place, digit in way_on(tree, rows)}
    text = data_text(value_on(tree, rows))
    found = []
    for place in sorted(here):
        if any([data_text(_value_with(tree, rows, place, digit)) != text for digit in range(sizes[place[1]])]):
            found.append(place)
    return tuple(found)


def _value_with(tree, rows, place, digit):
    """The value on told rows with another digit at a place."""
    while tree[0] == "ask":
        i, k = tree[1]
        tree = tree[2][digit if tree[1] == place else told_entry(rows[k], i)]
    return tree[1]
