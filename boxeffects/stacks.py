"""Stacks: forms (u, v), doing one behind the other, partners and clashes."""

from boxeffects.checks import is_one_of, need_contents, need_row, need_size
from boxeffects.errors import NoForm
from boxeffects.kinds import is_word

STACK = ("stack",)


def is_stack_form(value):
    """Tell whether any value is None or a pair of words."""
    if value is None:
        return True
    return isinstance(value, tuple) and len(value) == 2 and is_word(value[0]) and is_word(value[1])


def need_stack_form(form):
    """Raise NoForm unless it is a form of a stack."""
    if not is_stack_form(form):
        raise NoForm(form)


def stack_form(row):
    """Return the form of a row, None if it is nowhere."""
    need_row(STACK, row)
    asked = []
    pushed = []
    for verb, letter in row:
        if verb == "push":
            pushed.append(letter)
        elif not pushed:
            asked.append(letter)
        elif pushed.pop() != letter:
            return None
    return tuple(asked), tuple(reversed(pushed))


def stack_then(one, other):
    """Return the form that one form and then another one make."""
    need_stack_form(one)
    need_stack_form(other)
    return stack_both(one, other)


def stack_both(one, other):
    """Return the same of what are known to be forms."""
    if one is None or other is None:
        return None
    u, v = one
    s, t = other
    shared = min(len(v), len(s))
    if v[:shared] != s[:shared]:
        return None
    # One of both words is used up: what is left of s is asked below u, what is left of v stands below t.
    made = (u + s[shared:], t + v[shared:])
    need_size(max(len(made[0]), len(made[1])))
    return made


def begins_with(contents, word):
    """Tell whether the contents begin with the word."""
    return contents[:len(word)] == word


def stack_works(form, contents):
    """Tell whether the form works on the contents."""
    need_stack_form(form)
    need_contents(STACK, contents)
    return stack_bears(form, contents)


def stack_bears(form, contents):
    """Tell the same of contents of any size."""
    return form is not None and begins_with(contents, form[0])


def stack_left(form, contents):
    """Return what the form leaves of the contents, None where it does not work."""
    if not stack_works(form, contents):
        return None
    left = behind_stack(form, contents)
    need_size(len(left))
    return left


def behind_stack(form, contents):
    """Return what the form leaves of contents, of any size, on which it works."""
    u, v = form
    return v + contents[len(u):]


def stack_partners(row):
    """Return the tuple of the index of each step's partner, None for those without one."""
    need_row(STACK, row)
    partners = [None] * len(row)
    waiting = []
    for index, (verb, _) in enumerate(row):
        if verb == "push":
            waiting.append(index)
        elif waiting:
            push = waiting.pop()
            partners[push] = index
            partners[index] = push
    return tuple(partners)


def stack_clashes(row):
    """Return the list of all clashes, by their pops."""
    partners = stack_partners(row)
    clashes = []
    for index, (verb, letter) in enumerate(row):
        push = partners[index]
        if verb == "pop" and push is not None and row[push][1] != letter:
            clashes.append((push, index))
    return clashes


def stack_clash(row):
    """Return the clash with the least pop, None if the row is not nowhere."""
    clashes = stack_clashes(row)
    return clashes[0] if clashes else None


def shows_stack_clash(row, value):
    """Tell whether any value is a clash of the row."""
    return is_one_of(stack_clashes(row), value)
