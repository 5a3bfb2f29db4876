"""A file of notched cards planned: which code each field should have, and what that costs."""
