"""A desk: it keeps mixes under names, and claims about them that stay true."""

from risewords.base.checks import need_one_of
from risewords.base.ratios import is_integer
from risewords.desk.claims import is_claim, is_name, is_true, names_in
from risewords.errors import InvalidNumber, InvalidOperation, NothingToUndo, Refused, TooMany, UnknownName
from risewords.weave.leading import led_back, led_forth
from risewords.weave.products import product
from risewords.word.mixes import need_mix

MAX_KEPT = 12
MAX_CLAIMS = 12
MAX_ROWS = 400
MOST_DIGITS = 60
LEADS = ("forth", "back")


class Desk:
    """Mixes under names, and claims under labels. Deeds can be taken back, and done again."""

    def __init__(self):
        # A state is a pair of a dict from names to mixes and one from labels to claims, that nobody changes.
        self._state = ({}, {})
        self._past = ()
        self._future = ()

    @property
    def names(self):
        """The ascending tuple of the names that have a mix."""
        return tuple(sorted(self._state[0]))

    @property
    def labels(self):
        """The ascending tuple of the labels that have a claim."""
        return tuple(sorted(self._state[1]))

    @property
    def deeds(self):
        """How many deeds stand."""
        return len(self._past)

    def keep(self, name, mix):
        """Keeps a mix under a name; returns how many deeds stand."""
        _need_name(name)
        need_mix(mix)
        return self._keep(name, mix)

    def multiply(self, name, one, other, *, way):
        """Keeps the product of the mixes of two names; returns how many deeds stand."""
        _need_name(name)
        return self._keep(name, product(self.mix(one), self.mix(other), way=way))

    def lead(self, word):
        """Leads all mixes forth or back; returns how many deeds stand."""
        need_one_of(word, LEADS)
        mixes, claims = self._state
        led = {}
        for name in sorted(mixes):
            led[name] = led_forth(mixes[name]) if word == "forth" else led_back(mixes[name])
            _need_small(led[name])
        return self._do(led, claims)

    def drop(self, name):
        """Leaves a mix out; returns how many deeds stand."""
        mixes, claims = self._state
        if name not in self:
            raise UnknownName(name)
        return self._do({other: mixes[other] for other in mixes if other != name}, claims)

    def claim(self, label, claim):
        """Takes up a claim under a label; returns how many deeds stand."""
        _need_name(label)
        if not is_claim(claim):
            raise InvalidOperation("a claim is one of the tuples that the desk knows")
        mixes, claims = self._state
        if label in claims:
            raise Refused(("label", label))
        if len(claims) == MAX_CLAIMS:
            raise TooMany(MAX_CLAIMS)
        for name in names_in(claim):
            if name not in mixes:
                raise UnknownName(name)
        return self._do(mixes, {**claims, label: claim})

    def let_go(self, label):
        """Leaves a claim out; returns how many deeds stand."""
        mixes, claims = self._state
        self.claimed(label)
        return self._do(mixes, {other: claims[other] for other in claims if other != label})

    def undo(self, *, times=1):
        """Takes back the last deeds; returns how many stand."""
        _need_times(times, len(self._past))
        return self._go_to(len(self._past) - times)

    def redo(self, *, times=1):
        """Does again what was taken back last; returns how many deeds stand."""
        _need_times(times, len(self._future))
        return self._go_to(len(self._past) + times)

    def during(self, call):
        """What a call with the desk returns or raises; behind it the desk is as it was."""
        state, past, future = self._state, self._past, self._future
        try:
            return call(self)
        finally:
            self._state = state
            self._past = past
            self._future = future

    def mix(self, name):
        """The mix of a name."""
        if name not in self:
            raise UnknownName(name)
        return self._state[0][name]

    def claimed(self, label):
        """The claim of a label."""
        if not is_name(label) or label not in self._state[1]:
            raise UnknownName(label)
        return self._state[1][label]

    def twin(self):
        """An equal desk with the same deeds that goes on by itself."""
        made = Desk()
        made._state, made._past, made._future = self._state, self._past, self._future
        return made

    def _keep(self, name, mix):
        """Keeps a mix, if there are not too many, and it is not too large."""
        mixes, claims = self._state
        if name not in mixes and len(mixes) == MAX_KEPT:
            raise TooMany(MAX_KEPT)
        _need_small(mix)
        return self._do({**mixes, name: mix}, claims)

    def _do(self, mixes, claims):
        """Takes up a state, if each claim is true of it; returns how many deeds stand."""
        former, known = self._state
        for label in sorted(claims):
            names = names_in(claims[label])
            # A claim that stood stays true as long as its mixes are equal.
            stays = label in known and all([name in mixes and mixes[name] == former[name] for name in names])
            if not stays and not is_true(claims[label], mixes):
                raise Refused(("claim", label))
        self._past = (*self._past, self._state)
        self._state = (mixes, claims)
        self._future = ()
        return len(self._past)

    def _go_to(self, place):
        """Goes to the state with so many deeds behind it; returns how many these are."""
        states = (*self._past, self._state, *self._future)
        self._state = states[place]
        self._past = states[:place]
        self._future = states[place + 1:]
        return place

    def __contains__(self, x):
        return is_name(x) and x in self._state[0]

    def __eq__(self, other):
        return isinstance(other, Desk) and self._state == other._state

    def __len__(self):
        return len(self._state[0])

    def __str__(self):
        return f"desk of {len(self._state[0])} mixes, {len(self._state[1])} claims"


def _need_name(value):
    """Refuses all but strings of one to eight letters from a to z, for names and for labels."""
    if not is_name(value):
        raise InvalidOperation("a string of one to eight letters from a to z is needed")


def _need_small(mix):
    """Refuses a mix of more than 400 rows, and then one with longer integers."""
    if len(mix) > MAX_ROWS:
        raise TooMany(MAX_ROWS)
    if not all([is_integer(top) and is_integer(bottom) for _, (top, bottom) in mix]):
        raise TooMany(MOST_DIGITS)


def _need_times(times, most):
    """Refuses what is no integer from 0 on, and then more deeds than there are."""
    if not is_integer(times) or times < 0:
        raise InvalidNumber(times)
    if times > most:
        raise NothingToUndo(times)
