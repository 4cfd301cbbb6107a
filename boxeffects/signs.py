"""Signs: depths of moved rows, classes of loads by their sizes, and the signs for the letters of a class."""

from boxeffects.errors import NoClass, NoCount, TooMany
from boxeffects.kinds import is_between
from boxeffects.registers import need_desk, need_load, need_moved_row

MOST_DEPTH = 48
MOST_CLASSES = 1000
TAKING = ("pop", "take", "draw")


def acts_of(row, name):
    """Return the list of the steps of a box, without its name."""
    return [step[1] for step in row if len(step) == 2 and step[0] == name]


def depth_at(kind, acts):
    """Return the depth of these steps at a box of the kind."""
    if kind[0] not in ("stack", "queue"):
        return 0
    depth = many = 0
    for act in acts:
        if act[0] in TAKING:
            many += 1
        elif kind[0] == "stack":
            many -= 1
        depth = max(depth, many)
    return depth


def depths_by_boxes(desk, row):
    """Return the depths of what is known to be a moved row."""
    return tuple([depth_at(kind, acts_of(row, name)) for name, kind in desk[0]])


def depths_of(desk, row):
    """Return the tuple of the row's depths at the boxes."""
    need_moved_row(desk, row)
    return depths_by_boxes(desk, row)


def are_numbers_to(value, bounds):
    """Tell whether any value is a tuple of numbers, each from 0 to its bound."""
    if not isinstance(value, tuple) or len(value) != len(bounds):
        return False
    return all([is_between(number, 0, most) for number, most in zip(value, bounds)])


def need_depths(desk, depths):
    """Raise NoCount unless they are depths of what is known to be a desk."""
    if not are_numbers_to(depths, [MOST_DEPTH if kind[0] in ("stack", "queue") else 0 for _, kind in desk[0]]):
        raise NoCount(depths)


def need_enough(desk, row, depths):
    """Raise NoCount unless they are depths of the desk that are enough for the row."""
    need_depths(desk, depths)
    if not all([given >= asked for given, asked in zip(depths, depths_by_boxes(desk, row))]):
        raise NoCount(depths)


def class_bounds(desk, depths):
    """Return the list of the greatest numbers of classes at the depths."""
    return [kind[1] if kind[0] == "ring" else depth for (_, kind), depth in zip(desk[0], depths)]


def need_class(desk, depths, cls):
    """Raise NoClass unless it is a class of the desk at the depths."""
    if not are_numbers_to(cls, class_bounds(desk, depths)):
        raise NoClass(cls)


def classes_at(desk, depths):
    """Return the list of all classes at the depths, ascending."""
    need_desk(desk)
    need_depths(desk, depths)
    need_few_classes(desk, depths)
    return all_classes(desk, depths)


def how_many_classes(desk, depths):
    """Return how many classes there are at what are known to be depths."""
    many = 1
    for bound in class_bounds(desk, depths):
        many = many * (bound + 1)
    return many


def need_few_classes(desk, depths):
    """Raise TooMany if there are more classes than are told."""
    if how_many_classes(desk, depths) > MOST_CLASSES:
        raise TooMany(MOST_CLASSES)


def all_classes(desk, depths):
    """Return the list of all classes, however many, at what are known to be depths, ascending."""
    classes = [()]
    for bound in class_bounds(desk, depths):
        classes = [cls + (number,) for cls in classes for number in range(bound + 1)]
    return classes


def class_of(desk, depths, load):
    """Return the class at the depths in which the load is."""
    need_desk(desk)
    need_depths(desk, depths)
    need_load(desk, load)
    return class_in(desk, depths, load)


def class_in(desk, depths, load):
    """Return the class of what are known to be depths and a load of any size."""
    numbers = []
    for (_, kind), part, bound in zip(desk[0], load[0], class_bounds(desk, depths)):
        numbers.append(0 if kind[0] == "tape" else min(len(part), bound))
    return tuple(numbers)


def many_behind(kind, act, many):
    """Return how many terms a box has behind a step, None if it fails outright."""
    if act[0] in TAKING:
        return many - 1 if many > 0 else None
    if kind[0] == "ring" and many == kind[1]:
        # By drop one is lost, another one put.
        return None if kind[2] == "fail" else many
    return many + 1


def done_outright(desk, row, cls):
    """Return the steps of the row, done with signs, ahead of the first one that fails outright."""
    kinds = dict(desk[0])
    terms = {name: number for (name, _), number in zip(desk[0], cls)}
    for index, step in enumerate(row):
        if len(step) == 3 or kinds[step[0]] == ("tape",):
            continue
        many = many_behind(kinds[step[0]], step[1], terms[step[0]])
        if many is None:
            return row[:index]
        terms[step[0]] = many
    return row


def touched_places(acts):
    """Return the list of the places at which these steps of a tape read, write or expect something, ascending."""
    head = 0
    touched = set()
    for act in acts:
        if act[0] == "left":
            head -= 1
        elif act[0] == "right":
            head += 1
        else:
            touched.add(head)
    return sorted(touched)


def signs_of(desk, row, depths, cls):
    """Return the list of all signs of the class, of tapes those of the places that the row touches, ascending."""
    need_moved_row(desk, row)
    need_enough(desk, row, depths)
    need_class(desk, depths, cls)
    return signs_in_class(desk, row, cls)


def signs_in_class(desk, row, cls):
    """Return the same of what are known to be a row and a class."""
    signs = [(name,) for name in desk[1]]
    done = done_outright(desk, row, cls)
    for (name, kind), number in zip(desk[0], cls):
        if kind[0] == "tape":
            places = touched_places(acts_of(done, name))
        else:
            places = list(range(1, number + 1))
        signs.extend([(name, place) for place in places])
    return sorted(signs)
