"""The ways of programs: the trees of what they ask of rows of which nothing is known."""

from allendless.errors import TooGreat
from allendless.judging import menu_of
from allendless.plain import run_told
from allendless.running import run_body
from allendless.told import known_at
from allendless.trees import grown

MOST_WORK = 20000
MOST_ENDS = 500

# Ways are promised for small programs. They are told up to here, as terms that were returned may take many steps.
MOST_WORK_OF_WAYS = 100000


class Tally:
    """What going through ways has come to so far."""

    def __init__(self):
        self.work = 0
        self.ends = 0


def _gone_through(program, most):
    """The ways of a program whose work is at most a number, its work and the number of its ends."""
    menu = menu_of(program)
    tally = Tally()

    def step(state, known):
        run = run_body(program, known, None, most - tally.work)
        tally.work += run.steps
        if run.stopped is not None:
            return ("ask", run.stopped, [None] * menu[run.stopped[1]])
        tally.ends += 1
        if tally.ends > MOST_ENDS:
            raise TooGreat("program")
        return ("end", run.made[0])
    tree = grown(None, step, None)
    return tree, tally.work, tally.ends


def ways(program):
    """The ways of a program; TooGreat("program") if they are far too many."""
    tree, _, _ = _gone_through(program, MOST_WORK_OF_WAYS)
    return tree


def work(program):
    """The pair (work, number of ends) of a small program."""
    _, steps, ends = _gone_through(program, MOST_WORK)
    return (steps, ends)


def is_small(program):
    """Whether a program is small."""
    try:
        _gone_through(program, MOST_WORK)
    except TooGreat:
        return False
    return True


def way_of(program, rows):
    """The known entries of the way along which told rows go."""
    _, read, _ = run_told(program, rows)
    return known_at(rows, read)
