"""Names that follow others by rules. Nothing is checked here, but whether a value is a name.

`rules` is a dict from names to None, for a given name, or to a tuple of a rule and the names that are followed.
"""

from primekinds.maps.kept import greatest_kept

LONGEST_NAME = 8

# How many names are followed by each rule.
FOLLOWED = {"joined": 2, "kept": 1, "met": 2, "side": 1}


def is_name(value):
    """Whether the value is a string of one to eight letters from a to z."""
    if not isinstance(value, str) or not 1 <= len(value) <= LONGEST_NAME:
        return False
    return all([letter in "abcdefghijklmnopqrstuvwxyz" for letter in value])


def is_rule(rule, others):
    """Whether the value is a rule by which so many names are followed."""
    return isinstance(rule, str) and rule in FOLLOWED and len(others) == FOLLOWED[rule]


def followed_names(rules, name):
    """The names that a name follows itself."""
    return () if rules[name] is None else rules[name][1:]


def following_names(rules, name):
    """The ascending tuple of the names that follow a name themselves."""
    return tuple(sorted([other for other in rules if name in followed_names(rules, other)]))


def hanging_names(rules, name):
    """The list of the names that hang on a name, each one behind those of them that it follows."""
    hanging = {name: True}
    for _ in rules:
        for other in rules:
            if any([one in hanging for one in followed_names(rules, other)]):
                hanging[other] = True
    ordered = []
    left = [other for other in hanging if other != name]
    while len(left) > 0:
        ready = [other for other in left if not any([one in left for one in followed_names(rules, other)])]
        ordered = ordered + ready
        left = [other for other in left if other not in ready]
    return ordered


def part_by_rule(parts_kept, rule):
    """The part of a name that follows others."""
    part = parts_kept[rule[1]]
    if rule[0] == "side":
        return part.other_side
    if rule[0] == "kept":
        return greatest_kept(part)
    other = parts_kept[rule[2]]
    return part | other if rule[0] == "joined" else part & other


def parts_after(parts_kept, rules, name, part):
    """The dict of the parts of all names if that of one of them is put."""
    found = {other: parts_kept[other] for other in parts_kept}
    found[name] = part
    for other in hanging_names(rules, name):
        found[other] = part_by_rule(found, rules[other])
    return found
