"""The limits of lists of orders, of small companies and of gatherings."""

MOST = 300
MOST_PEOPLE = 12
MOST_GATHERED = 20
