"""Functions of rows, and the least place that each of them needs.

A function is kept as the number of a tree. An ask whose branches are all one function is never
kept: its branch 0 stands for it. So a place that stands in a kept tree is needed by its function.
"""

from allendless.data import data_text

# Marks are counted modulo a great prime. Whatever the tree of a function, its mark is the same;
# so functions with unlike marks are unlike, and few others have to be compared end by end.
PRIME = 2 ** 61 - 1
SPREAD = 1442695040888963407
SHIFT = 6364136223846793005
GREATEST_DIGIT = 8


def _mixed(number):
    """A number that looks like no other one's."""
    mixed = (number * SPREAD + SHIFT) % PRIME
    return mixed * mixed % PRIME * mixed % PRIME


class Functions:
    """Functions by their numbers; each has just one number, whatever tree it was told by."""

    def __init__(self):
        self.numbers = {}
        self.shapes = []
        self.lowests = []
        self.marks = []
        self.marked = {}
        self.weights = {}
        self.left = {}
        self.ends = {}
        self.tops = {}

    def _number_of_shape(self, shape, lowest, mark):
        """The number of a function that is told by a shape which has not been met yet."""
        held = self.marked.setdefault(mark, [])
        for number in held:
            if self._is_told_by(shape, number):
                self.numbers[shape] = number
                return number
        number = len(self.shapes)
        held.append(number)
        self.numbers[shape] = number
        self.shapes.append(shape)
        self.lowests.append(lowest)
        self.marks.append(mark)
        return number

    def end_with(self, key):
        """The function with one value, told by an integer or a string."""
        shape = ("end", key)
        number = self.numbers.get(shape)
        if number is None:
            number = self._number_of_shape(shape, None, _mixed(len(self.shapes)))
        return number

    def ask_for(self, place, branches):
        """The function that is told by the functions of branches, by the digit at a place."""
        if branches.count(branches[0]) == len(branches):
            return branches[0]
        shape = ("ask", place, branches)
        number = self.numbers.get(shape)
        if number is None:
            lowest = place
            for branch in branches:
                below = self.lowests[branch]
                if below is not None and below < lowest:
                    lowest = below
            number = self._number_of_shape(shape, lowest, self._mark_of_ask(place, branches))
        return number

    def _mark_of_ask(self, place, branches):
        """The mark of an ask: a sum of the marks of its branches, with weights that add up to 1."""
        if place not in self.weights:
            here = (place[0] * 4 + place[1]) * 10
            self.weights[place] = [_mixed(here + digit) for digit in range(GREATEST_DIGIT + 1)]
        weights = self.weights[place]
        first = self.marks[branches[0]]
        mark = first
        for digit in range(1, len(branches)):
            mark += weights[digit] * (self.marks[branches[digit]] - first)
        return mark % PRIME

    def _is_told_by(self, shape, number):
        """Whether a shape tells the function of a number: no two ends that go together have unlike values.

        The shape is gone through first, and for each of its ends what goes along with it of the function.
        """
        known = {}
        todo = [(None, 0, shape, None)]
        while todo:
            place, digit, part, wanted = todo.pop()
            if part is None:
                del known[place]
                continue
            if place is not None:
                known[place] = digit
            if wanted is None and part[0] == "end":
                wanted = part
                part = self.shapes[number]
            if wanted is not None:
                part = self._passed(part, known)
                if part[0] == "end" and part != wanted:
                    return False
            if part[0] == "ask":
                todo.append((part[1], 0, None, None))
                for at, branch in enumerate(part[2]):
                    todo.append((part[1], at, self.shapes[branch], wanted))
        return True

    def _passed(self, shape, known):
        """What stands in the place of a shape whose first asks are known already."""
        while shape[0] == "ask" and shape[1] in known:
            shape = self.shapes[shape[2][known[shape[1]]]]
        return shape

    def given_lowest(self, top, digit):
        """The function that is left of one if the least place that it needs has a digit."""
        if (top, digit) not in self.left:
            self.left[(top, digit)] = self._given_lowest(top, digit)
        return self.left[(top, digit)]

    def _given_lowest(self, top, digit):
        place = self.lowests[top]
        met = {top: True}
        todo = [top]
        while todo:
            shape = self.shapes[todo.pop()]
            if shape[1] != place:
                for branch in shape[2]:
                    if self.lowests[branch] == place and branch not in met:
                        met[branch] = True
                        todo.append(branch)
        made = {}
        # The branches of a shape have lesser numbers than it has itself, so they are made ahead of it.
        for number in sorted(met):
            shape = self.shapes[number]
            if shape[1] == place:
                made[number] = shape[2][digit]
            else:
                made[number] = self.ask_for(shape[1], tuple([made.get(branch, branch) for branch in shape[2]]))
        return made[top]

    def number_of(self, tree):
        """The number of the function of a right tree."""
        made = []
        todo = [(tree, False)]
        while todo:
            part, is_ended = todo.pop()
            if part[0] == "end":
                number = self.end_with(data_text(part[1]))
                self.ends[number] = part
                made.append(number)
            elif is_ended:
                first = len(made) - len(part[2])
                branches = tuple(made[first:])
                del made[first:]
                made.append(self.ask_for(part[1], branches))
            else:
                todo.append((part, True))
                todo.extend([(branch, False) for branch in part[2][::-1]])
        return made[0]

    def left_at(self, number, place, digit):
        """The function that is left if a place has a digit, the place being no greater than any that is needed."""
        return self.given_lowest(number, digit) if self.lowests[number] == place else number

    def size_at_lowest(self, number):
        """How many digits the least place has that a function needs."""
        place = self.lowests[number]
        shape = self.shapes[number]
        while shape[1] != place:
            below = [branch for branch in shape[2] if self.lowests[branch] == place]
            shape = self.shapes[below[0]]
        return len(shape[2])

    def top_of(self, number):
        """The top of the least tree of a function of trees: its end, or an ask with the numbers of its branches."""
        if number not in self.tops:
            lowest = self.lowests[number]
            if lowest is None:
                self.tops[number] = self.ends[number]
            else:
                digits = range(self.size_at_lowest(number))
                self.tops[number] = ("ask", lowest, tuple([self.given_lowest(number, digit) for digit in digits]))
        return self.tops[number]

    def places_of(self, number):
        """The places that a function needs, ascending."""
        met = {number: True}
        places = {}
        todo = [number]
        while todo:
            shape = self.shapes[todo.pop()]
            if shape[0] == "ask":
                places[shape[1]] = True
                further = [branch for branch in shape[2] if branch not in met]
                for branch in further:
                    met[branch] = True
                todo.extend(further)
        return tuple(sorted(places))

    def parts_of(self, number):
        """The unlike parts of the least tree of a function of trees, all branches of an ask in turn ahead of it."""
        found = {}
        todo = [(number, False)]
        while todo:
            part, is_ended = todo.pop()
            if part in found:
                continue
            top = self.top_of(part)
            if is_ended or top[0] == "end":
                found[part] = True
            else:
                todo.append((part, True))
                todo.extend([(branch, False) for branch in top[2][::-1]])
        return list(found)

    def folded(self, number, at_end, at_ask):
        """What is made of each part of the least tree of a function of trees, a dict by the numbers of the parts.

        at_end(V) makes it of an end, at_ask(place, what was made of the branches) of an ask.
        """
        made = {}
        for part in self.parts_of(number):
            top = self.top_of(part)
            if top[0] == "end":
                made[part] = at_end(top[1])
            else:
                made[part] = at_ask(top[1], [made[branch] for branch in top[2]])
        return made
