"""What the tests share: calls by name, all that can be seen of an object, and a plain model of the document."""

import copy
import functools
import itertools
import random

from samecells.desk import answers

NAMES = (
    "begin", "old", "want", "copy", "drop", "found", "take", "fits", "ahead", "ring", "best", "choice",
    "order", "sent", "done", "careless", "ifroom", "leastroom", "without", "room", "longest", "told", "rows",
)
ARITY = dict(zip(NAMES, (3, 2, 2, 3, 1, 0, 0, 1, 1, 0, 0, 0, 0, 0, 0, 0, 1, 0, 1, 1, 1, 1, 0)))
EDGES = (0, 1, 2, 15, 16, 17, 999, 1000, 4294967295)


def flat(calls):
    """The list of whole numbers for calls such as ("begin", 4, 4, 0)."""
    numbers = []
    for call in calls:
        assert len(call) == 1 + ARITY[call[0]], call
        numbers += [NAMES.index(call[0]), *call[1:]]
    assert 1 <= len(calls) <= 60 and len(numbers) <= 240, "more than may be handed in"
    return numbers


def split(given):
    """The answers one by one, out of the list that is given back."""
    single = []
    at = 0
    while at < len(given):
        single.append(given[at + 1:at + 1 + given[at]])
        assert len(single[-1]) == given[at] > 0
        at += 1 + given[at]
    return single


def run(*calls):
    return split(answers(flat(calls)))


def last(*calls):
    """What the last of the calls is answered."""
    return run(*calls)[-1]


def rows(old, wanted, room):
    """The calls that begin with these old cells, these wanted ones, and this room."""
    calls = [("begin", len(old), len(wanted), room)]
    calls += [("old", i, v) for i, v in enumerate(old) if v]
    calls += [("want", i, v) for i, v in enumerate(wanted) if v]
    return calls


def seen(calls):
    """All that the calls leave to be seen; each glance is a run of its own, so none disturbs another."""
    glances = [[(name,)] for name in NAMES if ARITY[name] == 0 and name != "take"]
    glances += [[(name, i) for i in range(8)] for name in ("fits", "ahead", "told", "without")]
    glances += [[(name, i) for i in range(17)] for name in ("longest", "ifroom")]
    glances += [[(name, i, 0)] for name in ("old", "want") for i in range(17)]
    glances.append([("room", 0)])
    return [run(*calls, *glance)[len(calls):] for glance in glances]


def has_to_be_ahead(one, other):
    """Whether the copy one has to be ahead of the copy other; both are f, t, n."""
    return bool(set(range(one[0], one[0] + one[2])) & set(range(other[1], other[1] + other[2])))


@functools.lru_cache(maxsize=None)
def lined_up(copies):
    """Of all the ways to line them up, the first that has each behind those that have to be ahead of it, or None."""
    # To take, again and again, the free one of the least number gives the first of these lines.
    for line in itertools.permutations(range(len(copies))):
        pairs = itertools.combinations(line, 2)
        if not any(has_to_be_ahead(copies[later], copies[earlier]) for earlier, later in pairs):
            return line
    return None


class Model:
    """The document's words, written as plainly as can be and apart from the program."""

    def __init__(self):
        self.cells = None

    def answer(self, name, *args):
        if name != "begin" and self.cells is None:
            return [-11]
        return getattr(self, name)(*args)

    def begin(self, n, m, s):
        if n not in range(1, 17) or m not in range(1, 17) or s > 16:
            return [-22]
        self.cells = {"old": [0] * n, "want": [0] * m}
        self.space = s
        self.copies = []
        return [0]

    def put(self, which, i, v):
        if i >= len(self.cells[which]):
            return [-2]
        if v > 999:
            return [-22]
        was = self.cells[which][i]
        self.cells[which][i] = v
        return [was]

    def old(self, i, v):
        return self.put("old", i, v)

    def want(self, i, v):
        return self.put("want", i, v)

    def reads(self, i):
        f, t, n = self.copies[i]
        return set(range(f, f + n))

    def writes(self, i):
        f, t, n = self.copies[i]
        return set(range(t, t + n))

    def fit(self, i):
        f, t, n = self.copies[i]
        return self.cells["old"][f:f + n] == self.cells["want"][t:t + n]

    def copy(self, f, t, n):
        if n == 0 or f + n > len(self.cells["old"]) or t + n > len(self.cells["want"]):
            return [-22]
        if any(self.writes(i) & set(range(t, t + n)) for i in range(len(self.copies))):
            return [-17]
        if len(self.copies) == 7:
            return [-28]
        self.copies.append((f, t, n))
        return [int(self.fit(len(self.copies) - 1))]

    def drop(self, i):
        if i >= len(self.copies):
            return [-2]
        del self.copies[i]
        return [len(self.copies)]

    def stretches(self):
        """Found by trying each length and each old cell, the longest and then the first one ahead."""
        old, want = self.cells["old"], self.cells["want"]
        copies = []
        t = 0
        while t < len(want):
            fitting = [
                (-n, f) for n in range(2, len(want) - t + 1) for f in range(len(old) - n + 1)
                if old[f:f + n] == want[t:t + n]
            ]
            if fitting:
                less, f = min(fitting)
                copies.append((f, t, -less))
                t -= less
            else:
                t += 1
        return copies[:7]

    def found(self):
        copies = self.stretches()
        return [len(copies), *itertools.chain(*copies)]

    def take(self):
        self.copies = self.stretches()
        return [len(self.copies)]

    def fits(self, i):
        return [int(self.fit(i))] if i < len(self.copies) else [-2]

    def ahead(self, i):
        if i >= len(self.copies):
            return [-2]
        them = [j for j, one in enumerate(self.copies) if j != i and has_to_be_ahead(one, self.copies[i])]
        return [len(them), *them]

    def those_fitting(self):
        return [i for i in range(len(self.copies)) if self.fit(i)]

    def line(self, numbers):
        """These copies in their order, or None."""
        line = lined_up(tuple(self.copies[i] for i in numbers))
        return None if line is None else [numbers[k] for k in line]

    def ring(self):
        return [int(self.line(self.those_fitting()) is None)]

    def said(self, choice, number):
        return [i for i, this in enumerate(choice) if this == number]

    def may_be_made(self, choice):
        if any(number != 2 and not self.fit(i) for i, number in enumerate(choice)):
            return False
        if self.kept(choice) > self.space:
            return False
        return self.line(self.said(choice, 0)) is not None

    def kept(self, choice):
        return sum(len(self.reads(i)) for i in self.said(choice, 1))

    def unmade(self, choice):
        made = [self.writes(i) for i, number in enumerate(choice) if number != 2]
        return sorted(set(range(len(self.cells["want"]))).difference(*made))

    def searched(self):
        """All choices that may be made, the best one first."""
        choices = itertools.product((0, 1, 2), repeat=len(self.copies))
        ranked = sorted((len(self.unmade(choice)), self.kept(choice), choice) for choice in choices)
        return (row for row in ranked if self.may_be_made(row[2]))

    def best(self):
        return list(next(self.searched())[:2])

    def chosen(self):
        return next(self.searched())[2]

    def choice(self):
        return [len(self.copies), *self.chosen()]

    def order(self):
        line = self.line(self.said(self.chosen(), 0))
        return [len(line), *line]

    def sent(self):
        cells = self.unmade(self.chosen())
        return [len(cells), *cells]

    def at_first(self):
        """What each cell holds, from 0 to 15."""
        return dict(enumerate(self.cells["old"] + [0] * (16 - len(self.cells["old"]))))

    def read(self, held, i):
        """What each new cell of copy i is to hold, as it is read now."""
        f, t, n = self.copies[i]
        return {t + k: held[f + k] for k in range(n)}

    def done_by(self, choice):
        held = self.at_first()
        aside = [self.read(held, i) for i in self.said(choice, 1)]
        for i in self.line(self.said(choice, 0)):
            held |= self.read(held, i)
        for kept in aside:
            held |= kept
        held |= {t: self.cells["want"][t] for t in self.unmade(choice)}
        return [held[cell] for cell in range(16)]

    def done(self):
        return [16, *self.done_by(self.chosen())]

    def careless(self):
        held = self.at_first()
        for i in self.those_fitting():
            held |= self.read(held, i)
        had = set().union(*[self.writes(i) for i in self.those_fitting()])
        cells = [t for t in sorted(had) if held[t] != self.cells["want"][t]]
        return [len(cells), *cells]

    def ifroom(self, s):
        if s > 16:
            return [-22]
        other = copy.deepcopy(self)
        other.space = s
        return other.best()[:1]

    def leastroom(self):
        no_copy_has = self.unmade([0 if self.fit(i) else 2 for i in range(len(self.copies))])
        return [next(s for s in range(17) if self.ifroom(s) == [len(no_copy_has)])]

    def without(self, i):
        if i >= len(self.copies):
            return [-2]
        other = copy.deepcopy(self)
        other.drop(i)
        return other.best()[:1]

    def room(self, s):
        if s > 16:
            return [-22]
        was = self.space
        self.space = s
        return [was]

    def longest(self, t):
        old, want = self.cells["old"], self.cells["want"]
        if t >= len(want):
            return [-2]
        for n in range(len(want) - t, 0, -1):
            for f in range(len(old) - n + 1):
                if old[f:f + n] == want[t:t + n]:
                    return [n, f]
        return [0, 0]

    def told(self, i):
        return list(self.copies[i]) if i < len(self.copies) else [-2]

    def rows(self):
        return [len(self.cells["old"]), *self.cells["old"], len(self.cells["want"]), *self.cells["want"]]


def modelled(calls):
    model = Model()
    return [model.answer(*call) for call in calls]


def source(seed):
    """Chance that is the same each time."""
    return random.Random(seed)


def drawn(chance):
    """Calls for old and new cells, room, and copies in any order, of which most fit and many stand in rings."""
    old = [chance.randrange(1, 4) for i in range(chance.randrange(2, 17))]
    wanted = [chance.randrange(1, 4) for i in range(chance.choice((len(old), chance.randrange(2, 17))))]
    cuts = sorted(chance.sample(range(1, len(wanted)), min(chance.randrange(1, 7), len(wanted) - 1)))
    copies = []
    for t, end in zip([0, *cuts], [*cuts, len(wanted)]):
        n = end - t
        if n <= len(old):
            f = chance.randrange(len(old) - n + 1)
            copies.append(("copy", f, t, n))
            if chance.random() < 0.9:
                wanted[t:end] = old[f:f + n]
    chance.shuffle(copies)
    if chance.random() < 0.3:
        copies = copies[1:]
    return [*rows(old, wanted, chance.choice((0, 1, 2, 3, 4, 16))), *copies]
