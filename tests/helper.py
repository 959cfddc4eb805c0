"""What the tests share: calls by name, all that can be seen of an object, and a plain model of the document."""

import itertools
import random

from samecells.desk import answers

NAMES = (
    "begin", "old", "want", "copy", "drop", "found", "take", "fits", "ahead", "ring", "best", "choice",
    "order", "sent", "done", "careless", "ifroom", "leastroom", "without", "room", "longest", "told", "rows",
)
ARITY = dict(zip(NAMES, (3, 2, 2, 3, 1, 0, 0, 1, 1, 0, 0, 0, 0, 0, 0, 0, 1, 0, 1, 1, 1, 1, 0)))
BUILT = NAMES[:12]
EDGES = (0, 1, 2, 15, 16, 17, 999, 1000, 4294967295)


def flat(calls):
    """The list of whole numbers for calls such as ("begin", 4, 4, 0)."""
    numbers = []
    for call in calls:
        assert len(call) == 1 + ARITY[call[0]], call
        numbers += [NAMES.index(call[0]), *call[1:]]
    assert 1 <= len(calls) <= 60 and len(numbers) <= 240, "more than may be handed in"
    return numbers


def split(given):
    """The answers one by one, out of the list that is given back."""
    single = []
    at = 0
    while at < len(given):
        single.append(given[at + 1:at + 1 + given[at]])
        assert len(single[-1]) == given[at] > 0
        at += 1 + given[at]
    return single


def run(*calls):
    return split(answers(flat(calls)))


def last(*calls):
    """What the last of the calls is answered."""
    return run(*calls)[-1]


def rows(old, wanted, room):
    """The calls that begin with these old cells, these wanted ones, and this room."""
    calls = [("begin", len(old), len(wanted), room)]
    calls += [("old", i, v) for i, v in enumerate(old) if v]
    calls += [("want", i, v) for i, v in enumerate(wanted) if v]
    return calls


def seen(calls):
    """All that the calls leave to be seen; each glance is a run of its own, so none disturbs another."""
    glances = [[(name,)] for name in ("found", "ring", "best", "choice")]
    glances.append([(name, i) for name in ("fits", "ahead") for i in range(8)])
    glances += [[(name, i, 0)] for name in ("old", "want") for i in range(17)]
    return [run(*calls, *glance)[len(calls):] for glance in glances]


class Model:
    """The document's words, written as plainly as can be and apart from the program."""

    def __init__(self):
        self.cells = None

    def answer(self, name, *args):
        if name != "begin" and self.cells is None:
            return [-11]
        return getattr(self, name)(*args)

    def begin(self, n, m, s):
        if n not in range(1, 17) or m not in range(1, 17) or s > 16:
            return [-22]
        self.cells = {"old": [0] * n, "want": [0] * m}
        self.space = s
        self.copies = []
        return [0]

    def put(self, which, i, v):
        if i >= len(self.cells[which]):
            return [-2]
        if v > 999:
            return [-22]
        was = self.cells[which][i]
        self.cells[which][i] = v
        return [was]

    def old(self, i, v):
        return self.put("old", i, v)

    def want(self, i, v):
        return self.put("want", i, v)

    def reads(self, i):
        f, t, n = self.copies[i]
        return set(range(f, f + n))

    def writes(self, i):
        f, t, n = self.copies[i]
        return set(range(t, t + n))

    def fit(self, i):
        f, t, n = self.copies[i]
        return self.cells["old"][f:f + n] == self.cells["want"][t:t + n]

    def copy(self, f, t, n):
        if n == 0 or f + n > len(self.cells["old"]) or t + n > len(self.cells["want"]):
            return [-22]
        if any(self.writes(i) & set(range(t, t + n)) for i in range(len(self.copies))):
            return [-17]
        if len(self.copies) == 7:
            return [-28]
        self.copies.append((f, t, n))
        return [int(self.fit(len(self.copies) - 1))]

    def drop(self, i):
        if i >= len(self.copies):
            return [-2]
        del self.copies[i]
        return [len(self.copies)]

    def stretches(self):
        """Found by trying each length and each old cell, the longest and then the first one ahead."""
        old, want = self.cells["old"], self.cells["want"]
        copies = []
        t = 0
        while t < len(want):
            fitting = [
                (-n, f) for n in range(2, len(want) - t + 1) for f in range(len(old) - n + 1)
                if old[f:f + n] == want[t:t + n]
            ]
            if fitting:
                less, f = min(fitting)
                copies.append((f, t, -less))
                t -= less
            else:
                t += 1
        return copies[:7]

    def found(self):
        copies = self.stretches()
        return [len(copies), *itertools.chain(*copies)]

    def take(self):
        self.copies = self.stretches()
        return [len(self.copies)]

    def fits(self, i):
        return [int(self.fit(i))] if i < len(self.copies) else [-2]

    def has_to_be_ahead(self, i, j):
        return i != j and bool(self.writes(j) & self.reads(i))

    def ahead(self, i):
        if i >= len(self.copies):
            return [-2]
        them = [j for j in range(len(self.copies)) if self.has_to_be_ahead(j, i)]
        return [len(them), *them]

    def have_an_order(self, numbers):
        """Whether one of all the ways to line them up keeps each behind those that have to be ahead of it."""
        return any(
            not any(self.has_to_be_ahead(line[k], line[j]) for k in range(len(line)) for j in range(k))
            for line in itertools.permutations(numbers)
        )

    def ring(self):
        return [int(not self.have_an_order([i for i in range(len(self.copies)) if self.fit(i)]))]

    def may_be_made(self, choice):
        if any(number != 2 and not self.fit(i) for i, number in enumerate(choice)):
            return False
        if self.kept(choice) > self.space:
            return False
        return self.have_an_order([i for i, number in enumerate(choice) if number == 0])

    def kept(self, choice):
        return sum(len(self.reads(i)) for i, number in enumerate(choice) if number == 1)

    def sent(self, choice):
        made = [self.writes(i) for i, number in enumerate(choice) if number != 2]
        return len(set(range(len(self.cells["want"]))).difference(*made))

    def searched(self):
        """All choices that may be made, the best one first."""
        choices = itertools.product((0, 1, 2), repeat=len(self.copies))
        ranked = sorted((self.sent(choice), self.kept(choice), choice) for choice in choices)
        return (row for row in ranked if self.may_be_made(row[2]))

    def best(self):
        return list(next(self.searched())[:2])

    def choice(self):
        return [len(self.copies), *next(self.searched())[2]]


def modelled(calls):
    model = Model()
    return [model.answer(*call) for call in calls]


def source(seed):
    """Chance that is the same each time."""
    return random.Random(seed)
