"""A machine as it is heard: the way from chart to chart, with tables that are made once."""

from heardquotes.ways import explored


class Hearing:
    """A machine and letters that are heard; what it is asked with has to be right already."""

    def __init__(self, machine, heard):
        steps = machine.steps()
        places = list(range(machine.places))
        unheard = [(start, stop) for start, letter, stop in steps if not is_said(letter, heard)]
        self._heard = heard
        self._begins = machine.begins()
        self._spreads = [spread(unheard, place) for place in places]
        self._stops = {(place, letter): [stop for start, said, stop in steps if (start, said) == (place, letter)]
                       for place in places for letter in heard}

    def joined(self, places):
        """The chart of these places and of all to which steps that are not heard lead from them."""
        return tuple(sorted(set([stop for place in places for stop in self._spreads[place]])))

    def first(self):
        return self.joined(self._begins)

    def then(self, chart, letter):
        """The chart then a letter, None if it can't be heard next."""
        if letter not in self._heard:
            return None
        stops = self.stops(chart, letter)
        return self.joined(stops) if stops else None

    def stops(self, chart, letter):
        """The sorted list of the places to which a step with this heard letter leads from a place of the chart."""
        return sorted(set([stop for place in chart for stop in self._stops[(place, letter)]]))

    def ways(self, chart):
        """The dict from the letters that can be heard next, sorted, to the charts then them."""
        charts = [(letter, self.then(chart, letter)) for letter in self._heard]
        return {letter: then for letter, then in charts if then is not None}

    def led(self, chart, word):
        """The chart to which the word leads from this one, None if it can't be heard on."""
        for letter in word:
            chart = self.then(chart, letter)
            if chart is None:
                return None
        return chart

    def charts_from(self, chart):
        """The dict from the charts to which words lead from this one to their ways, by rising least words."""
        return explored(chart, lambda known: self.ways(known))


def is_said(letter, heard):
    """Whether a step with this letter is heard; the string without letters is within every other one."""
    return letter != "" and letter in heard


def spread(pairs, place):
    """The sorted list of this place and all to which the pairs (start, stop) lead on from it."""
    found = {place: True}
    waiting = [place]
    while waiting:
        at = waiting.pop()
        for start, stop in pairs:
            if start == at and stop not in found:
                found[stop] = True
                waiting.append(stop)
    return sorted(found)
