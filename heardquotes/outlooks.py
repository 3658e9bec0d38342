"""What may come from a chart on, without any quotes: floors and tolls over all words that lead on."""

from heardquotes.hearing import Hearing
from heardquotes.ratios import Ratio, shared_bottom
from heardquotes.ways import words_from


class Outlook:
    """The charts to which words lead from the first one, with dues and tolls as integers of one common scale."""

    def __init__(self, machine, heard, claim, chart):
        dues, tolls = claim.dues(), claim.tolls()
        scale = shared_bottom(list(dues.values()) + list(tolls.values()))
        whole_dues = scaled(dues, scale)
        self._first = chart
        self._charts = Hearing(machine, heard).charts_from(chart)
        self._scale = scale
        self._tolls = scaled(tolls, scale)
        self._floors = {known: max([whole_dues.get(place, 0) for place in known]) for known in self._charts}

    def toll(self, letter):
        return self._tolls.get(letter, 0)

    def higher(self, heights):
        """For the charts that rise by one letter more the tuples of the height then, and of this letter."""
        found = {}
        for chart, ways in self._charts.items():
            best = (heights[chart], "")
            for letter, then in ways.items():
                height = self.toll(letter) + heights[then]
                if height > best[0]:
                    best = (height, letter)
            if best[1] != "":
                found[chart] = best
        return found

    def settled(self):
        """The heights with words of fewer letters than charts, the letters by which they rose, and a chart that
        rises on with one letter more: None if there is none, for then no words are worth more."""
        heights = dict([(chart, self._floors[chart]) for chart in self._charts])
        letters = {}
        rest = self.higher(heights)
        rounds = 1
        while rest and rounds < len(self._charts):
            for chart, (height, letter) in rest.items():
                heights[chart] = height
                letters[chart] = letter
            rest = self.higher(heights)
            rounds += 1
        for chart in rest:
            letters[chart] = rest[chart][1]
        restless = min(rest) if rest else None
        return heights, letters, restless

    def greatest_floors(self):
        """The dict from the charts, sorted, to their greatest floors to come; None if the first one has none."""
        heights, _, restless = self.settled()
        if restless is not None:
            return None
        return {chart: Ratio(heights[chart], self._scale) for chart in sorted(heights)}

    def toll_round(self):
        """A round of tolls from the first chart, None if there is none.

        The letters by which the heights rose lead on from the restless chart, and after as many of them as there
        are charts they have come into a ring; a ring of such letters always has tolls above 0.
        """
        _, letters, chart = self.settled()
        if chart is None:
            return None
        for _ in self._charts:
            chart = self._charts[chart][letters[chart]]
        ring, at = letters[chart], self._charts[chart][letters[chart]]
        while at != chart:
            ring, at = ring + letters[at], self._charts[at][letters[at]]
        return words_from(self._charts, self._first)[chart], ring

    def longer(self, sums):
        """The greatest sums of words with one letter more, None where there are no such words."""
        return {chart: max([self.toll(letter) + sums[then] for letter, then in ways.items()
                            if sums[then] is not None], default=None)
                for chart, ways in self._charts.items()}

    def rise(self):
        """The least word that is worth more than the first chart's own floor; there has to be one."""
        own = self._floors[self._first]
        table = [self._floors]
        while table[-1][self._first] is None or table[-1][self._first] <= own:
            table.append(self.longer(table[-1]))
        word, chart, more = "", self._first, own
        for sums in table[-2::-1]:
            letter = self.first_above(chart, sums, more)
            word, chart, more = word + letter, self._charts[chart][letter], more - self.toll(letter)
        return word

    def first_above(self, chart, sums, more):
        """The first letter that can lead on from the chart to a sum that is, with its toll, above more."""
        found = [letter for letter, then in self._charts[chart].items()
                 if sums[then] is not None and self.toll(letter) + sums[then] > more]
        return found[0]


def scaled(table, scale):
    return {key: table[key].top * (scale // table[key].bottom) for key in table}
