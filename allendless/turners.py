"""Turners: programs that turn rows into rows, entry by entry."""

from allendless.data import power
from allendless.errors import TooGreat, WrongKind
from allendless.judging import kind_of
from allendless.kinds import plainly_named
from allendless.leasttrees import least
from allendless.moduli import modulus
from allendless.ratios import ratio
from allendless.sameness import parting, same
from allendless.ways import ways

MOST_BEGINNINGS = 4096

# So many entries have more beginnings than that, whatever the digits are.
MUCH_TOO_LONG = 13


def entry_program(turner, n):
    """The program of one entry of the result."""
    return (*turner[:3], ("at", turner[3], ("number", n)))


def _sizes_of(turner):
    """The sizes of the rows that are turned and of the rows that come."""
    kind = kind_of(turner, ())
    return kind[1][1], kind[2][1]


def _entry_ways(turner, n):
    """The ways of the first entries, so many."""
    return [ways(entry_program(turner, j)) for j in range(n)]


def _needed_length(m, trees):
    """How many entries of a row some trees need."""
    return max([0, *[modulus((m,), tree) for tree in trees]])


def entry_tree(turner, n):
    """The least tree of one entry of the result."""
    return least((_sizes_of(turner)[0],), ways(entry_program(turner, n)))


def needs(turner, n):
    """How many entries of a row the first n entries of the result need."""
    return _needed_length(_sizes_of(turner)[0], _entry_ways(turner, n))


def behind(turner, other):
    """A turner whose result on a row is that of the one on the result of the other one."""
    m, k = _sizes_of(other)
    if k != _sizes_of(turner)[0]:
        raise WrongKind()
    return plainly_named(("fn", "row", ("rows", m), ("call", turner, ("call", other, ("var", "row")))))


def first_unlike(turner, other, n):
    """None if two turners are alike up to n; otherwise (j, BEGINNING) for their first unlike entry trees."""
    if _sizes_of(turner) != _sizes_of(other):
        raise WrongKind()
    sizes = (_sizes_of(turner)[0],)
    trees = _entry_ways(turner, n)
    others = _entry_ways(other, n)
    for j in range(n):
        if not same(sizes, trees[j], others[j]):
            return (j, parting(sizes, trees[j], others[j])[0])
    return None


def _check_length(m, length):
    """Refuse to go through too many beginnings."""
    if power(m, min(length, MUCH_TOO_LONG)) > MOST_BEGINNINGS:
        raise TooGreat("beginnings")


class Results:
    """The results for all beginnings of rows, as far as they are told.

    Beginnings whose results have begun alike have one class; images has the beginning of the result for each class.
    """

    def __init__(self, turner, n):
        self.turner = turner
        self.m, self.k = _sizes_of(turner)
        self.length = 0
        self.beginnings = [()]
        self.classes = [0]
        self.images = [()]
        self.lengthen(n)

    def lengthen(self, length):
        """Go on with all beginnings up to a length."""
        _check_length(self.m, length)
        while self.length < length:
            self.classes = [held for held in self.classes for _ in range(self.m)]
            self.beginnings = [begun + (digit,) for begun in self.beginnings for digit in range(self.m)]
            self.length += 1

    def tell(self, tree):
        """Tell one more entry of all results, by its tree."""
        self.lengthen(max(self.length, modulus((self.m,), tree)))
        numbers = {}
        told = []
        classes = []
        for begun, held in zip(self.beginnings, self.classes):
            digit = _value_behind(tree, begun)
            if (held, digit) not in numbers:
                numbers[(held, digit)] = len(told)
                told.append(self.images[held] + (digit,))
            classes.append(numbers[(held, digit)])
        self.images = told
        self.classes = classes

    def many_of(self, image):
        """For how many beginnings the result begins so."""
        if image not in self.images:
            return 0
        return self.classes.count(self.images.index(image))

    def read_back(self, n):
        """For each class the first n entries of its beginnings, and None; or two beginnings that are unlike there."""
        firsts = [None] * len(self.images)
        for begun, held in zip(self.beginnings, self.classes):
            if firsts[held] is None:
                firsts[held] = begun
            elif firsts[held][:n] != begun[:n]:
                return None, (firsts[held], begun)
        return [begun[:n] for begun in firsts], None


def _value_behind(tree, begun):
    """The value of a tree on rows that begin so; all places that it needs are in the beginning."""
    while tree[0] == "ask":
        i = tree[1][0]
        tree = tree[2][begun[i] if i < len(begun) else 0]
    return tree[1]


def _told_results(turner, n, many):
    """The first entries, so many, of the results for all beginnings of at least n entries."""
    results = Results(turner, n)
    for j in range(many):
        results.tell(ways(entry_program(turner, j)))
    return results


def images(turner, n):
    """The beginnings of length n of results, ascending."""
    return tuple(sorted(_told_results(turner, n, n).images))


def share_of_image(turner, w):
    """The share of the rows whose result begins so."""
    results = _told_results(turner, len(w), len(w))
    return ratio(results.many_of(w), len(results.beginnings))


def keeps_shares(turner, n):
    """Whether all beginnings of length n of results have the same share, and all come."""
    results = _told_results(turner, n, n)
    if len(results.images) != power(results.k, n):
        return False
    many = [0] * len(results.images)
    for held in results.classes:
        many[held] += 1
    return min(many) == max(many)


def _check_fits(turner):
    """Refuse a turner whose results are rows over another number of digits."""
    m, k = _sizes_of(turner)
    if m != k:
        raise WrongKind()


def fixed_beginnings(turner, n):
    """The beginnings of length n of rows whose result begins with them, too; ascending."""
    _check_fits(turner)
    results = _told_results(turner, n, n)
    found = {}
    for begun, held in zip(results.beginnings, results.classes):
        if results.images[held] == begun[:n]:
            found[begun[:n]] = True
    return tuple(sorted(found))


def is_ahead(turner, n):
    """Whether each entry j below n of the result hangs on entries below j alone."""
    _check_fits(turner)
    m, _ = _sizes_of(turner)
    return all([modulus((m,), tree) <= j for j, tree in enumerate(_entry_ways(turner, n))])


def reads_back(turner, n, most):
    """The least N, at most a number, from which a turner reads back n; None if there is none."""
    results = Results(turner, n)
    for many in range(most + 1):
        if many > 0:
            results.tell(ways(entry_program(turner, many - 1)))
        told, _ = results.read_back(n)
        if told is not None:
            return many
    return None


def back_table(turner, n, many):
    """The pairs (image of a length, beginning of length n of its rows), ascending; None if it does not read back."""
    results = _told_results(turner, n, many)
    told, _ = results.read_back(n)
    return None if told is None else tuple(sorted(list(zip(results.images, told))))


def collision(turner, n, many):
    """Two beginnings, unlike in their first n entries, whose results have the same first entries, so many, or None."""
    _, clash = _told_results(turner, n, many).read_back(n)
    return clash
