"""Tables in which two choose, judged for all wishes."""
