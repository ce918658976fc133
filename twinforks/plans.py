"""Plans: nets with parts that are used again and again."""

from twinforks.errors import BadItems, BadParts, BadPlan
from twinforks.nets import check_wires, is_cell
from twinforks.things import are_names, check_ends, first_no_end, first_not_twice, is_list, is_name


def is_use(thing):
    return len(thing) == 3 and thing[0] == "use" and is_name(thing[1]) and are_names(thing[2])


def is_joining(thing):
    return len(thing) == 3 and thing[0] == "join" and are_names(thing[1:])


def is_item(thing, ahead):
    """Whether any object is an item that uses just what it can: parts ahead, from names to how many ends."""
    if not is_list(thing):
        return False
    if is_use(thing):
        return thing[1] in ahead and ahead[thing[1]] == len(thing[2])
    return is_cell(thing) or is_joining(thing) or (len(thing) == 1 and thing[0] == "loop")


def first_no_item(items, ahead):
    """The index of the first thing that is no item, None if these are items."""
    if not is_list(items):
        return 0
    for at, item in enumerate(items):
        if not is_item(item, ahead):
            return at
    return None


def wires_of(item):
    """The names of an item's wires, as they stand there."""
    if item[0] == "use":
        return item[2]
    return item[1:]


def names_in(ends, items):
    """All names of wires, as they stand in ends and items."""
    names = list(ends)
    for item in items:
        names.extend(wires_of(item))
    return names


def is_part(thing, ahead):
    """Whether any object is a part that uses parts ahead alone."""
    if not is_list(thing) or len(thing) != 3 or not is_name(thing[0]):
        return False
    if first_no_end(thing[1]) is not None or first_no_item(thing[2], ahead) is not None:
        return False
    return first_not_twice(names_in(thing[1], thing[2])) is None


def check_parts(parts):
    """Tells the parts from their names to how many ends they have."""
    if not is_list(parts):
        raise BadParts(0)
    ahead = {}
    for at, part in enumerate(parts):
        if not is_part(part, ahead) or part[0] in ahead:
            raise BadParts(at)
        ahead[part[0]] = len(part[1])
    return ahead


def check_items(items, ahead):
    at = first_no_item(items, ahead)
    if at is not None:
        raise BadItems(at)


def check_plan(plan):
    if not isinstance(plan, Plan):
        raise BadPlan(plan)


def told_item(item):
    """An item as it is told, a tuple, a use's wires a new list."""
    if item[0] == "use":
        return item[0], item[1], list(item[2])
    return tuple(item)


def told_items(items):
    return [told_item(item) for item in items]


def told_parts(parts):
    return [(name, list(ends), told_items(items)) for name, ends, items in parts]


class Plan:
    """A plan of parts, ends and items. It never changes."""

    def __init__(self, parts, ends, items):
        ahead = check_parts(parts)
        check_ends(ends)
        check_items(items, ahead)
        check_wires(names_in(ends, items))
        self._parts = told_parts(parts)
        self._ends = list(ends)
        self._body = told_items(items)

    def parts(self):
        return told_parts(self._parts)

    def ends(self):
        return list(self._ends)

    def body(self):
        return told_items(self._body)

    def __eq__(self, other):
        if not isinstance(other, Plan):
            return False
        return self._parts == other._parts and self._ends == other._ends and self._body == other._body
