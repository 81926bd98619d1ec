"""Desks: parts of one group under names, some of which follow others, and promises about them."""

from primekinds.base.wholes import is_integer
from primekinds.desk.following import following_names, hanging_names, is_name, is_rule, parts_after, part_by_rule
from primekinds.desk.promises import broken_labels, is_promise
from primekinds.errors import InvalidNumber, InvalidOperation, InvalidPart, NothingToUndo, Refused, TooMany, UnknownName
from primekinds.group.groups import require_group
from primekinds.group.parts import require_part

MAX_NAMES = 12
MAX_PROMISES = 12
RULES = ("joined", "kept", "met", "side")


class Desk:
    """A desk. What it keeps is a tuple of its group and of the dicts of parts, rules and promises.

    No such tuple is ever changed: each deed makes a new one, and the old ones are kept for taking deeds back.
    """

    def __init__(self, group):
        require_group(group)
        self._kept = (group, {}, {}, {})
        self._history = (self._kept,)
        self._done = 0

    @property
    def group(self):
        """The group."""
        return self._kept[0]

    @property
    def names(self):
        """The ascending tuple of the names."""
        return tuple(sorted(self._kept[1]))

    @property
    def labels(self):
        """The ascending tuple of the labels of promises."""
        return tuple(sorted(self._kept[3]))

    @property
    def deeds(self):
        """How many deeds stand."""
        return self._done

    def put(self, name, part):
        """Gives a part to a name."""
        require_put(self, name, part)
        require_room(self, name)
        return self._do(kept_with(self._kept, name, None, part))

    def follow(self, name, rule, *others):
        """Lets a name follow others by a rule."""
        require_rule(name, rule, others)
        for other in others:
            if other not in self:
                raise UnknownName(other)
        for other in others:
            if other == name or other in hanging_names(self._kept[2], name):
                raise Refused(("ring", other))
        require_room(self, name)
        told = (rule, *others)
        return self._do(kept_with(self._kept, name, told, part_by_rule(self._kept[1], told)))

    def drop(self, name):
        """Keeps a name no longer."""
        require_known(self, name)
        group, some, rules, promises = self._kept
        following = following_names(rules, name)
        if len(following) > 0:
            raise Refused(("followed", following))
        return self._do((group, without_key(some, name), without_key(rules, name), promises))

    def promise(self, label, promise):
        """Keeps a promise under a label."""
        require_promise(self, label, promise)
        group, some, rules, promises = self._kept
        if label in promises:
            raise Refused(("label", label))
        if len(promises) == MAX_PROMISES:
            raise TooMany(MAX_PROMISES)
        return self._do((group, some, rules, with_key(promises, label, promise)))

    def free(self, label):
        """Keeps a promise no longer."""
        group, some, rules, promises = self._kept
        if not is_name(label) or label not in promises:
            raise UnknownName(label)
        return self._do((group, some, rules, without_key(promises, label)))

    def undo(self, *, many=1):
        """Takes the last deeds back."""
        require_deeds(many, self._done)
        return self._go_to(self._done - many)

    def redo(self, *, many=1):
        """Does deeds again that were taken back."""
        require_deeds(many, len(self._history) - 1 - self._done)
        return self._go_to(self._done + many)

    def _do(self, kept):
        """Makes a deed of what is kept then, and forgets what could be done again, unless promises are broken."""
        broken = broken_labels(kept[1], kept[3])
        if len(broken) > 0:
            raise Refused(("promise", broken[0]))
        self._history = (*self._history[:self._done + 1], kept)
        return self._go_to(self._done + 1)

    def _go_to(self, done):
        """Goes to what is kept after so many deeds."""
        self._done = done
        self._kept = self._history[done]
        return done

    def during(self, call):
        """What a call with this desk returns; all that it does here is forgotten."""
        kept, history, done = self._kept, self._history, self._done
        try:
            return call(self)
        finally:
            self._kept, self._history, self._done = kept, history, done

    def part_under(self, name):
        """The part of a name."""
        require_known(self, name)
        return self._kept[1][name]

    def rule(self, name):
        """The rule of a name and the names that it follows; None for a given name."""
        require_known(self, name)
        return self._kept[2][name]

    def hanging(self, name):
        """The ascending tuple of the names that hang on a name."""
        require_known(self, name)
        return tuple(sorted(hanging_names(self._kept[2], name)))

    def promised(self, label):
        """The promise under a label."""
        if not is_name(label) or label not in self._kept[3]:
            raise UnknownName(label)
        return self._kept[3][label]

    def broken_by(self, name, part):
        """The ascending tuple of the labels of the promises that a part under a name would break."""
        require_put(self, name, part)
        kept = kept_with(self._kept, name, None, part)
        return broken_labels(kept[1], kept[3])

    def twin(self):
        """An equal desk with the same deeds that goes on by itself."""
        desk = Desk(self.group)
        desk._history = self._history
        desk._go_to(self._done)
        return desk

    def __contains__(self, value):
        return is_name(value) and value in self._kept[1]

    def __len__(self):
        return len(self._kept[1])

    def __eq__(self, other):
        return isinstance(other, Desk) and self._kept == other._kept

    def __str__(self):
        return str(desk_text(self._kept[0], len(self._kept[1]), len(self._kept[3])))


def desk_text(group, names, promises):
    """The text of a desk with so many names and promises."""
    return f"desk of {group.kind} at {group.prime} with {names} names, {promises} promises"


def with_key(told, key, value):
    """A copy of a dict with a value under a key."""
    made = {one: told[one] for one in told}
    made[key] = value
    return made


def without_key(told, key):
    """A copy of a dict without a key."""
    return {one: told[one] for one in told if one != key}


def kept_with(kept, name, rule, part):
    """What is kept if a name has a part, and a rule or None."""
    group, some, rules, promises = kept
    more = with_key(rules, name, rule)
    return group, parts_after(some, more, name, part), more, promises


def require_put(desk, name, part):
    """Refuses what is no name, and what is no part of the group of the desk."""
    if not is_name(name):
        raise InvalidOperation("a name is a string of one to eight letters from a to z")
    require_part(part)
    if part.group != desk.group:
        raise InvalidPart("a part of the group of the desk is needed")


def require_room(desk, name):
    """Refuses a new name if there are twelve."""
    if name not in desk and len(desk) == MAX_NAMES:
        raise TooMany(MAX_NAMES)


def require_rule(name, rule, others):
    """Refuses what is no name, and what is no rule with as many others as it needs."""
    if not is_name(name):
        raise InvalidOperation("a name is a string of one to eight letters from a to z")
    if not is_rule(rule, others):
        raise InvalidOperation("a rule and as many names as it needs are needed")


def require_known(desk, name):
    """Refuses each value that is no name of the desk."""
    if name not in desk:
        raise UnknownName(name)


def require_promise(desk, label, promise):
    """Refuses what is no label, and what is no promise."""
    if not is_name(label):
        raise InvalidOperation("a label is a string of one to eight letters from a to z")
    if not is_promise(desk.group, promise):
        raise InvalidOperation("a promise has one of the told forms")


def require_deeds(many, most):
    """Refuses what is no number of deeds, and more deeds than there are."""
    if not is_integer(many) or many < 0:
        raise InvalidNumber(many)
    if many > most:
        raise NothingToUndo(many)
