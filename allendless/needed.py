"""Functions of rows, and the least place that each of them needs.

A function is kept as the number of a tree. An ask whose branches are all one function is never
kept: its branch 0 stands for it. So a place that stands in a kept tree is needed by its function.
"""

# Marks are counted modulo a great prime. Whatever the tree of a function, its mark is the same;
# so functions with unlike marks are unlike, and few others have to be compared end by end.
PRIME = 2 ** 61 - 1
SPREAD = 1442695040888963407
SHIFT = 6364136223846793005


def _mixed(number):
    """A number that looks like no other one's."""
    mixed = (number * SPREAD + SHIFT) % PRIME
    return mixed * mixed % PRIME * mixed % PRIME


def _mark_of_ask(place, marks):
    """The mark of an ask: a sum of the marks of its branches, with weights that add up to 1."""
    mark = marks[0]
    for digit in range(1, len(marks)):
        weight = _mixed((place[0] * 4 + place[1]) * 10 + digit)
        mark = (mark + weight * (marks[digit] - marks[0])) % PRIME
    return mark


class Functions:
    """Functions by their numbers."""

    def __init__(self):
        self.numbers = {}
        self.shapes = []
        self.lowests = []
        self.marks = []

    def _kept(self, shape, lowest, mark):
        """The number of a tree of this shape."""
        if shape not in self.numbers:
            self.numbers[shape] = len(self.shapes)
            self.shapes.append(shape)
            self.lowests.append(lowest)
            self.marks.append(mark)
        return self.numbers[shape]

    def end_with(self, key):
        """The function with one value, told by an integer or a string."""
        shape = ("end", key)
        return self._kept(shape, None, _mixed(self.numbers.get(shape, len(self.shapes))))

    def ask_for(self, place, branches):
        """The function that is told by the functions of branches, by the digit at a place."""
        if all([self.is_same(branches[0], branch) for branch in branches]):
            return branches[0]
        below = [self.lowests[branch] for branch in branches if self.lowests[branch] is not None]
        mark = _mark_of_ask(place, [self.marks[branch] for branch in branches])
        return self._kept(("ask", place, branches), min([place, *below]), mark)

    def is_same(self, one, other):
        """Whether two numbers stand for the same function."""
        if one == other or self.marks[one] != self.marks[other]:
            return one == other
        todo = [(one, {})]
        while todo:
            number, known = todo.pop()
            shape = self.shapes[number]
            if shape[0] == "end":
                if not self._gives_only(other, known, number):
                    return False
                continue
            for digit, branch in enumerate(shape[2]):
                longer = {place: known[place] for place in known}
                longer[shape[1]] = digit
                todo.append((branch, longer))
        return True

    def _gives_only(self, number, known, wanted):
        """Whether a function has this one value on all rows that go along with known entries."""
        todo = [number]
        while todo:
            number = todo.pop()
            shape = self.shapes[number]
            if shape[0] == "end":
                if number != wanted:
                    return False
            elif shape[1] in known:
                todo.append(shape[2][known[shape[1]]])
            else:
                todo.extend(shape[2])
        return True

    def given_lowest(self, top, digit):
        """The function that is left of one if the least place that it needs has a digit."""
        place = self.lowests[top]
        made = {}
        todo = [top]
        while todo:
            number = todo.pop()
            shape = self.shapes[number]
            if self.lowests[number] != place:
                made[number] = number
            elif shape[1] == place:
                made[number] = shape[2][digit]
            elif number not in made:
                missing = [branch for branch in shape[2] if branch not in made]
                if missing:
                    todo.append(number)
                    todo.extend(missing)
                else:
                    made[number] = self.ask_for(shape[1], tuple([made[branch] for branch in shape[2]]))
        return made[top]
