"""Fordbook: ways open by windows of a day, and the soonest anywhere."""
