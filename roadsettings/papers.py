"""Papers that show how a look came by its value, and what a step made; and whether a paper shows it."""

from roadsettings.diffs import differing, fresh
from roadsettings.marks import alike, is_number


def look_paper(roads, place, name):
    """The tuple of the places from that one back to the first whose step has the name, or to the begin."""
    back = [place]
    while not roads.step_has(back[-1], name) and roads.ahead(back[-1]) is not None:
        back.append(roads.ahead(back[-1]))
    return tuple(back)


def shows_look(roads, place, name, told, paper):
    """Whether the paper shows that the name has at the place the told value, or none for None."""
    # Only one paper can be right: a shorter one ends with no step of the name, a longer one goes past such a step.
    due = look_paper(roads, place, name)
    return is_tuple_of(due, paper) and alike(roads.walked(place, name), told)


def copy_paper(roads, place):
    """The rising tuple of the nodes that the step of the place, which isn't the begin, made."""
    old = roads.table(roads.ahead(place))
    return tuple(fresh(roads.store(), [old], [roads.table(place)]))


def shows_copy(store, old, new, name, paper):
    """Whether the paper shows that new is old but for the name, with fresh nodes on the name's way alone."""
    due = fresh(store, [old], [new])
    names, looks = differing(store, old, new)
    way = store.way(new, name)
    if not is_tuple_of(due, paper):
        return False
    return all([number in way for number in due]) and all([unlike == name for unlike in names])


def between_paper(roads, early, late, name):
    """The tuple of those places on the road to late, behind early, whose steps have the name."""
    return tuple([place for place in roads.between(early, late) if roads.step_has(place, name)])


def is_tuple_of(numbers, thing):
    """Whether the thing is a tuple of just these numbers, in their order."""
    if not isinstance(thing, tuple) or not all([is_number(part) for part in thing]):
        return False
    return list(thing) == list(numbers)
