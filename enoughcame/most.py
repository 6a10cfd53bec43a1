"""The limits up to which orders are listed and small companies are counted."""

MOST = 300
MOST_PEOPLE = 12
