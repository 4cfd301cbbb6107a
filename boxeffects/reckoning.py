"""Reckoning: the lengths and forms of a program's parts, and runs of its steps, without going through them."""

from boxeffects.forms import empty_form, form_of
from boxeffects.running import mixed_lasts, mixed_power, states_behind
from boxeffects.several import both_mixed, kinds_of


class Reckoning:
    """The parts of a program, and what has been reckoned of them.

    A part calls only parts that stand ahead of it, so nothing here calls itself deeper than there are parts.
    """

    def __init__(self, boxes, parts, forms):
        self._kinds = kinds_of(boxes)
        self._places = {name: place for place, name in enumerate(boxes.names())}
        self._empty = tuple([empty_form(kind) for kind in self._kinds])
        self._acts = dict(parts)
        # At first those forms of parts that are known already.
        self._forms = dict(forms)
        self._lengths = {}
        for name, acts in parts:
            self._lengths[name] = sum([self._length_of_act(act) for act in acts])

    def length(self, name):
        """Return how many steps a part has."""
        return self._lengths[name]

    def _length_of_act(self, act):
        if act[0] == "do":
            return 1
        many = self._lengths[act[-1]]
        return act[1] * many if act[0] == "repeat" else many

    def times(self, name, step):
        """Return how often a mixed step is among the steps of a part."""
        times = {}
        for part, acts in self._acts.items():
            many = 0
            for act in acts:
                if act[0] == "do":
                    many += 1 if act[1:] == step else 0
                else:
                    many += times[act[-1]] * (act[1] if act[0] == "repeat" else 1)
            times[part] = many
        return times[name]

    def step(self, name, k):
        """Return the mixed step with the number k of a part, which has more steps."""
        left = k
        for act in self._acts[name]:
            many = self._length_of_act(act)
            if left >= many:
                left = left - many
            elif act[0] == "do":
                return act[1:]
            else:
                return self.step(act[-1], left % self._lengths[act[-1]])

    def form(self, name):
        """Return the mixed form of a part."""
        if name not in self._forms:
            self._forms[name] = self.form_of_acts(self._acts[name])
        return self._forms[name]

    def form_of_acts(self, acts):
        """Return the mixed form of some acts, joined from the first one on."""
        made = self._empty
        for act in acts:
            made = self._joined(made, self._form_of_act(act))
        return made

    def _joined(self, one, other):
        return both_mixed(self._kinds, one, other)

    def _form_of_act(self, act):
        if act[0] == "do":
            place = self._places[act[1]]
            return self._empty[:place] + (form_of(self._kinds[place], (act[2],)),) + self._empty[place + 1:]
        form = self.form(act[-1])
        return mixed_power(self._kinds, form, act[1]) if act[0] == "repeat" else form

    def first_form(self, name, k):
        """Return the mixed form of the first k steps of a part."""
        made = self._empty
        left = k
        for act in self._acts[name]:
            many = self._length_of_act(act)
            if many > left:
                return self._ended(made, act, left)
            made = self._joined(made, self._form_of_act(act))
            left = left - many
        return made

    def _ended(self, made, act, k):
        """Return the form of what was made and then the first k steps of an act, less than it has."""
        if k == 0:
            return made
        times, left = divmod(k, self._lengths[act[-1]])
        if times > 0:
            made = self._joined(made, mixed_power(self._kinds, self.form(act[-1]), times))
        return self._joined(made, self.first_form(act[-1], left))

    def run(self, name, states, k):
        """Do the first k steps of a part on states.

        Returns the pair of how many of them are done, up to one that fails, and the states then, None if one fails.
        """
        done = 0
        for act in self._acts[name]:
            many = min(self._length_of_act(act), k - done)
            if many > 0:
                did, states = self._run_act(act, states, many)
                done += did
                if did < many:
                    return done, None
        return done, states

    def _run_act(self, act, states, many):
        form = self._form_of_act(act) if act[0] == "do" else self.form(act[-1])
        length = 1 if act[0] == "do" else self._lengths[act[-1]]
        times, left = divmod(many, length)
        lasts = mixed_lasts(self._kinds, form, states)
        whole = times if lasts is None else min(lasts, times)
        if whole > 0:
            states = states_behind(self._kinds, mixed_power(self._kinds, form, whole), states)
        if whole == times and left == 0:
            return many, states
        if act[0] == "do":
            return 0, None
        did, states = self.run(act[-1], states, length if whole < times else left)
        return whole * length + did, states
