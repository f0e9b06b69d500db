"""The plain meaning of programs: single runs of them."""

from allendless.running import run_body, run_term

# Answers are promised for 20,000 steps. More are gone, as terms that were returned may take many.
MOST_STEPS = 100000


def run_known(program, known):
    """The run with known entries: ("value", V, READ, STEPS), or ("stop", PLACE, READ, STEPS)."""
    run = run_body(program, {place: digit for place, digit in known}, None, MOST_STEPS)
    read = tuple(list(run.reads))
    if run.stopped is None:
        return ("value", run.made[0], read, run.steps)
    return ("stop", run.stopped, read, run.steps)


def run_told(program, rows):
    """The run on told rows: (V, READ, STEPS)."""
    run = run_body(program, {}, rows, MOST_STEPS)
    return (run.made[0], tuple(list(run.reads)), run.steps)


def value_of(term):
    """The value of a closed right term of a plain kind, and the steps that it takes."""
    run = run_term(term, None, {}, None, MOST_STEPS)
    return (run.made[0], run.steps)
